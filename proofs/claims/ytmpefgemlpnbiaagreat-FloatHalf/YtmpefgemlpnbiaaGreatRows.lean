/-
  No cell of these rows narrows 'for every input' (looked for: loops, veiled, ifaces, maps, wideKeys, modest, calm, conditions, laid).
  DERIVED. THE GIVEN ROWS OF THIS SEAT. 6 by the template 'for every input the law returns true; each argument reads behind the call as it read before'; 0 by the template 'total and deterministic' (their statements: YtmpefgemlpnbiaaGreatTotals.lean).
  GIVEN WITH THE SEED: the statements are not yours to turn. If you find one false, say at which input.
  Laid BY PROGRAM, IN A SANDBOX (cutbox-rows.mjs): the forced cells as the released guide's own fill.sh prints them over the translation 3a0f61b7cc8fcde6… (all of the seat's roots in one cut). By AI agents, Wed Nov 11 2026. No macro, syntax, notation, axiom, sorry.
-/
import Derived.Test.YtmpefgemlpnbiaaGreatChecked
import GoSem.Claim
import GoSem.ClaimJoined
import GoSem.ClaimMapViews
import Derived.JoinedTies
import Derived.KernelRfl
namespace Go.Proofs.YtmpefgemlpnbiaaGreat
/- THE CELL 'sum', in the pinned program and in every row, IS THE sha256 OF THE DUMP (.gsa) THAT YtmpefgemlpnbiaaGreatProg.lean LOADS. Nothing in Lean hashes anything: it is a label: what it is worth is what the hold of that sum in a sandbox is worth. -/
noncomputable def Tryz.pinned : Pinned := { name := "ytmpefgemlpnbiaagreat", sum := "3a0f61b7cc8fcde6e324c5967cf8943fcb6d9d1e00ee185eaf2a78b51e079c1f", checked := Tryz.checked }
namespace Rows
def none {H : Type} : Left H := { results := [], args := [] }

/-- 'sterlinglaw3.FloatRound': WHATEVER THE INPUT: true; the input reads as it did. -/
def floatRoundSpec : ChangeSpec := { name := "floatRound", fn := fun _ => fun
  | [d1, d2] => { results := [.lit (.bool true)], args := [d1, d2] }
  | _ => none }
def floatRoundRow : OpenClaim := { program := "ytmpefgemlpnbiaagreat", sum := "3a0f61b7cc8fcde6e324c5967cf8943fcb6d9d1e00ee185eaf2a78b51e079c1f", func := "sterling/sterlinglaw3.FloatRound", spec := "floatRound", inPlace := ["internal/bytealg.IndexByteString", "internal/bytealg.IndexString", "math.Float64frombits", "math.Float64bits", "math.Float32frombits", "math.Float32bits"], named := ["internal/bytealg.MaxLen"], apart := false }
def FloatRoundSaid : Prop := floatRoundRow.holds Tryz.pinned (OpenSpec.ofChange floatRoundSpec)

/-- ITS FALSE NEIGHBOUR: 'it returns false'. Refute it at one input. -/
def floatRoundWrong : ChangeSpec := { name := "floatRound", fn := fun _ => fun
  | [d1, d2] => { results := [.lit (.bool false)], args := [d1, d2] }
  | _ => none }
def FloatRoundWrongFalsely : Prop := floatRoundRow.holds Tryz.pinned (OpenSpec.ofChange floatRoundWrong)

/-- 'sterlinglaw3.FloatHalf': WHATEVER THE INPUT: true; the input reads as it did. -/
def floatHalfSpec : ChangeSpec := { name := "floatHalf", fn := fun _ => fun
  | [d1, d2, d3] => { results := [.lit (.bool true)], args := [d1, d2, d3] }
  | _ => none }
def floatHalfRow : OpenClaim := { program := "ytmpefgemlpnbiaagreat", sum := "3a0f61b7cc8fcde6e324c5967cf8943fcb6d9d1e00ee185eaf2a78b51e079c1f", func := "sterling/sterlinglaw3.FloatHalf", spec := "floatHalf", inPlace := ["internal/bytealg.IndexByteString", "internal/bytealg.IndexString", "math.Float64frombits", "math.Float64bits", "math.Float32frombits"], named := ["internal/bytealg.MaxLen"], apart := false }
def FloatHalfSaid : Prop := floatHalfRow.holds Tryz.pinned (OpenSpec.ofChange floatHalfSpec)

/-- ITS FALSE NEIGHBOUR: 'it returns false'. Refute it at one input. -/
def floatHalfWrong : ChangeSpec := { name := "floatHalf", fn := fun _ => fun
  | [d1, d2, d3] => { results := [.lit (.bool false)], args := [d1, d2, d3] }
  | _ => none }
def FloatHalfWrongFalsely : Prop := floatHalfRow.holds Tryz.pinned (OpenSpec.ofChange floatHalfWrong)

/-- 'sterlinglaw3.FloatExact': WHATEVER THE INPUT: true; the input reads as it did. -/
def floatExactSpec : ChangeSpec := { name := "floatExact", fn := fun _ => fun
  | [d1, d2] => { results := [.lit (.bool true)], args := [d1, d2] }
  | _ => none }
def floatExactRow : OpenClaim := { program := "ytmpefgemlpnbiaagreat", sum := "3a0f61b7cc8fcde6e324c5967cf8943fcb6d9d1e00ee185eaf2a78b51e079c1f", func := "sterling/sterlinglaw3.FloatExact", spec := "floatExact", inPlace := ["internal/bytealg.IndexByteString", "internal/bytealg.IndexString", "math.Float64frombits", "math.Float64bits", "math.Float32frombits"], named := ["internal/bytealg.MaxLen"], apart := false }
def FloatExactSaid : Prop := floatExactRow.holds Tryz.pinned (OpenSpec.ofChange floatExactSpec)

/-- ITS FALSE NEIGHBOUR: 'it returns false'. Refute it at one input. -/
def floatExactWrong : ChangeSpec := { name := "floatExact", fn := fun _ => fun
  | [d1, d2] => { results := [.lit (.bool false)], args := [d1, d2] }
  | _ => none }
def FloatExactWrongFalsely : Prop := floatExactRow.holds Tryz.pinned (OpenSpec.ofChange floatExactWrong)

/-- 'sterlinglaw3.FloatOrder': WHATEVER THE INPUT: true; the input reads as it did. -/
def floatOrderSpec : ChangeSpec := { name := "floatOrder", fn := fun _ => fun
  | [d1, d2, d3] => { results := [.lit (.bool true)], args := [d1, d2, d3] }
  | _ => none }
def floatOrderRow : OpenClaim := { program := "ytmpefgemlpnbiaagreat", sum := "3a0f61b7cc8fcde6e324c5967cf8943fcb6d9d1e00ee185eaf2a78b51e079c1f", func := "sterling/sterlinglaw3.FloatOrder", spec := "floatOrder", inPlace := ["internal/bytealg.IndexByteString", "internal/bytealg.IndexString", "math.Float64frombits", "math.Float64bits", "math.Float32frombits"], named := ["internal/bytealg.MaxLen"], apart := false }
def FloatOrderSaid : Prop := floatOrderRow.holds Tryz.pinned (OpenSpec.ofChange floatOrderSpec)

/-- ITS FALSE NEIGHBOUR: 'it returns false'. Refute it at one input. -/
def floatOrderWrong : ChangeSpec := { name := "floatOrder", fn := fun _ => fun
  | [d1, d2, d3] => { results := [.lit (.bool false)], args := [d1, d2, d3] }
  | _ => none }
def FloatOrderWrongFalsely : Prop := floatOrderRow.holds Tryz.pinned (OpenSpec.ofChange floatOrderWrong)

/-- 'sterlinglaw3.FloatInts': WHATEVER THE INPUT: true; the input reads as it did. -/
def floatIntsSpec : ChangeSpec := { name := "floatInts", fn := fun _ => fun
  | [d1, d2, d3, d4] => { results := [.lit (.bool true)], args := [d1, d2, d3, d4] }
  | _ => none }
def floatIntsRow : OpenClaim := { program := "ytmpefgemlpnbiaagreat", sum := "3a0f61b7cc8fcde6e324c5967cf8943fcb6d9d1e00ee185eaf2a78b51e079c1f", func := "sterling/sterlinglaw3.FloatInts", spec := "floatInts", inPlace := ["internal/bytealg.IndexByteString", "internal/bytealg.IndexString", "math.Float64frombits", "math.Float64bits", "math.Float32frombits"], named := ["internal/bytealg.MaxLen"], apart := false }
def FloatIntsSaid : Prop := floatIntsRow.holds Tryz.pinned (OpenSpec.ofChange floatIntsSpec)

/-- ITS FALSE NEIGHBOUR: 'it returns false'. Refute it at one input. -/
def floatIntsWrong : ChangeSpec := { name := "floatInts", fn := fun _ => fun
  | [d1, d2, d3, d4] => { results := [.lit (.bool false)], args := [d1, d2, d3, d4] }
  | _ => none }
def FloatIntsWrongFalsely : Prop := floatIntsRow.holds Tryz.pinned (OpenSpec.ofChange floatIntsWrong)

/-- 'sterlinglaw3.FloatEdges': WHATEVER THE INPUT: true; the input reads as it did. -/
def floatEdgesSpec : ChangeSpec := { name := "floatEdges", fn := fun _ => fun
  | [] => { results := [.lit (.bool true)], args := [] }
  | _ => none }
def floatEdgesRow : OpenClaim := { program := "ytmpefgemlpnbiaagreat", sum := "3a0f61b7cc8fcde6e324c5967cf8943fcb6d9d1e00ee185eaf2a78b51e079c1f", func := "sterling/sterlinglaw3.FloatEdges", spec := "floatEdges", inPlace := ["math.Float64frombits", "math.Float64bits", "internal/bytealg.IndexByteString", "internal/bytealg.IndexString", "math.Float32frombits"], named := ["internal/bytealg.MaxLen"], apart := false }
def FloatEdgesSaid : Prop := floatEdgesRow.holds Tryz.pinned (OpenSpec.ofChange floatEdgesSpec)

/-- ITS FALSE NEIGHBOUR: 'it returns false'. Refute it at one input. -/
def floatEdgesWrong : ChangeSpec := { name := "floatEdges", fn := fun _ => fun
  | [] => { results := [.lit (.bool false)], args := [] }
  | _ => none }
def FloatEdgesWrongFalsely : Prop := floatEdgesRow.holds Tryz.pinned (OpenSpec.ofChange floatEdgesWrong)

/- THE SECOND FORM. 'bulk': how many values and letters a reading holds, each counted each time it is reached (what is shared counts as often as it is met; a slice's spare places count too). A statement '..UptoSaid' is the law's where the arguments, and the package variables that the reading takes, are together of bulk at most 1048576: NARROWER than '..Said'. Prove '..Said' where nothing that the law and all that it calls make is longer than what came in: it says more and counts as full. Else prove '..UptoSaid'. A law counts once. -/
mutual
def uptoBulk {H : Type} : DataW H → Nat
  | .lit (.string bytes) => bytes.length + 1
  | .lit _ => 1
  | .nil => 1
  | .ptr d => uptoBulk d + 1
  | .slice elems spare => uptoBulkAll elems + uptoBulkAll spare + 1
  | .agg parts => uptoBulkAll parts + 1
  | .iface _ d => uptoBulk d + 1
  | .map entries => uptoBulkEntries entries + 1
  | .held _ => 1
def uptoBulkAll {H : Type} : List (DataW H) → Nat
  | [] => 0
  | d :: r => uptoBulk d + uptoBulkAll r
def uptoBulkEntries {H : Type} : List (Lit × DataW H) → Nat
  | [] => 0
  | x :: r => uptoBulkEntry x + uptoBulkEntries r
def uptoBulkEntry {H : Type} : Lit × DataW H → Nat
  | (.string bytes, d) => bytes.length + uptoBulk d + 1
  | (_, d) => uptoBulk d + 1
 end
def uptoSmall : (H : Type) → List (DataW H) → Bool := fun _ ds => decide (uptoBulkAll ds ≤ 1048576)
def OpenSpec.upto (s : _root_.Go.ChangeSpec) : _root_.Go.OpenSpec := { _root_.Go.OpenSpec.ofChange s with cond := some uptoSmall }

/-- 'sterlinglaw3.FloatRound', WHERE WHAT IT READS IS OF BULK AT MOST 1048576: true; the input reads as it did. -/
def floatRoundUptoRow : OpenClaim := { program := "ytmpefgemlpnbiaagreat", sum := "3a0f61b7cc8fcde6e324c5967cf8943fcb6d9d1e00ee185eaf2a78b51e079c1f", func := "sterling/sterlinglaw3.FloatRound", spec := "floatRound", inPlace := ["internal/bytealg.IndexByteString", "internal/bytealg.IndexString", "math.Float64frombits", "math.Float64bits", "math.Float32frombits", "math.Float32bits"], named := ["internal/bytealg.MaxLen"], apart := false, narrowed := true }
def FloatRoundUptoSaid : Prop := floatRoundUptoRow.holds Tryz.pinned (OpenSpec.upto floatRoundSpec)

/-- 'sterlinglaw3.FloatHalf', WHERE WHAT IT READS IS OF BULK AT MOST 1048576: true; the input reads as it did. -/
def floatHalfUptoRow : OpenClaim := { program := "ytmpefgemlpnbiaagreat", sum := "3a0f61b7cc8fcde6e324c5967cf8943fcb6d9d1e00ee185eaf2a78b51e079c1f", func := "sterling/sterlinglaw3.FloatHalf", spec := "floatHalf", inPlace := ["internal/bytealg.IndexByteString", "internal/bytealg.IndexString", "math.Float64frombits", "math.Float64bits", "math.Float32frombits"], named := ["internal/bytealg.MaxLen"], apart := false, narrowed := true }
def FloatHalfUptoSaid : Prop := floatHalfUptoRow.holds Tryz.pinned (OpenSpec.upto floatHalfSpec)

/-- 'sterlinglaw3.FloatExact', WHERE WHAT IT READS IS OF BULK AT MOST 1048576: true; the input reads as it did. -/
def floatExactUptoRow : OpenClaim := { program := "ytmpefgemlpnbiaagreat", sum := "3a0f61b7cc8fcde6e324c5967cf8943fcb6d9d1e00ee185eaf2a78b51e079c1f", func := "sterling/sterlinglaw3.FloatExact", spec := "floatExact", inPlace := ["internal/bytealg.IndexByteString", "internal/bytealg.IndexString", "math.Float64frombits", "math.Float64bits", "math.Float32frombits"], named := ["internal/bytealg.MaxLen"], apart := false, narrowed := true }
def FloatExactUptoSaid : Prop := floatExactUptoRow.holds Tryz.pinned (OpenSpec.upto floatExactSpec)

/-- 'sterlinglaw3.FloatOrder', WHERE WHAT IT READS IS OF BULK AT MOST 1048576: true; the input reads as it did. -/
def floatOrderUptoRow : OpenClaim := { program := "ytmpefgemlpnbiaagreat", sum := "3a0f61b7cc8fcde6e324c5967cf8943fcb6d9d1e00ee185eaf2a78b51e079c1f", func := "sterling/sterlinglaw3.FloatOrder", spec := "floatOrder", inPlace := ["internal/bytealg.IndexByteString", "internal/bytealg.IndexString", "math.Float64frombits", "math.Float64bits", "math.Float32frombits"], named := ["internal/bytealg.MaxLen"], apart := false, narrowed := true }
def FloatOrderUptoSaid : Prop := floatOrderUptoRow.holds Tryz.pinned (OpenSpec.upto floatOrderSpec)

/-- 'sterlinglaw3.FloatInts', WHERE WHAT IT READS IS OF BULK AT MOST 1048576: true; the input reads as it did. -/
def floatIntsUptoRow : OpenClaim := { program := "ytmpefgemlpnbiaagreat", sum := "3a0f61b7cc8fcde6e324c5967cf8943fcb6d9d1e00ee185eaf2a78b51e079c1f", func := "sterling/sterlinglaw3.FloatInts", spec := "floatInts", inPlace := ["internal/bytealg.IndexByteString", "internal/bytealg.IndexString", "math.Float64frombits", "math.Float64bits", "math.Float32frombits"], named := ["internal/bytealg.MaxLen"], apart := false, narrowed := true }
def FloatIntsUptoSaid : Prop := floatIntsUptoRow.holds Tryz.pinned (OpenSpec.upto floatIntsSpec)

/-- 'sterlinglaw3.FloatEdges', WHERE WHAT IT READS IS OF BULK AT MOST 1048576: true; the input reads as it did. -/
def floatEdgesUptoRow : OpenClaim := { program := "ytmpefgemlpnbiaagreat", sum := "3a0f61b7cc8fcde6e324c5967cf8943fcb6d9d1e00ee185eaf2a78b51e079c1f", func := "sterling/sterlinglaw3.FloatEdges", spec := "floatEdges", inPlace := ["math.Float64frombits", "math.Float64bits", "internal/bytealg.IndexByteString", "internal/bytealg.IndexString", "math.Float32frombits"], named := ["internal/bytealg.MaxLen"], apart := false, narrowed := true }
def FloatEdgesUptoSaid : Prop := floatEdgesUptoRow.holds Tryz.pinned (OpenSpec.upto floatEdgesSpec)

end Rows
end Go.Proofs.YtmpefgemlpnbiaaGreat
