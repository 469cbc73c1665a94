/- A number that was handed in, opened. -/
import Derived.Test.YtdcjgepgiaaaoabRows
import Derived.Test.YtdcjgepgiaaaoabCutx
import Derived.WalkKit
import Derived.ProofKit
import Derived.OpenShut
import Derived.ChangeOld
import Derived.Below
import Derived.Lib.SmallJoins
namespace Go.Proofs.Ytdcjgepgiaaaoab
open Go.ChangeShapes Go.WideShapes Go.ChangeAt Go.RowKit Go.Joins
set_option linter.unusedVariables false
theorem ownNone : ownKnob Try.prog.godebug = none := by kernel_rfl
theorem laidAll : laidOutB Try.prog = true := by kernel_rfl
theorem Try.cells24 : Try.prog.cellsOf 24 = 2 := by kernel_rfl
theorem Try.cells30 : Try.prog.cellsOf 30 = 1 := by kernel_rfl
set_option maxRecDepth 100000 in
/-- A number that was handed in. -/
theorem open_big {H : Type} {enc : TypeId × Value → H} {W : World} {b0 : Nat} {v : Value} {d : DataW H} {p : List MemPlace} (hv : Value.okWide Try.prog W .any b0 24 v) (h : DataW.Trod enc Try.prog W 0 (fun _ => true) true 24 v d p) :
    ∃ (n : Bool) (a : Option Addr) (cap : Nat) (zs : List Int), v = .agg #[.bool n, .slice a zs.length cap] ∧ Row W .u32 4294967296 a cap zs := by
  obtain ⟨v0, v1, y0, y1, m, rfl, _, _, hy0, hy1⟩ := open_agg2 Try.underlying24 (by kernel_rfl) Try.cells24 hv h
  obtain ⟨b, e0, _⟩ := DataW.trod_bool Try.underlying4 hy0
  simp at e0
  subst e0
  rcases open_ints Try.underlying22 Try.underlying30 Try.cells30 hy1 with ⟨hcs, _⟩ | ⟨x, l, c, zs, hcs, _, hl, hm, hz, _, hcell, hwz⟩
  · simp at hcs
    subst hcs
    exact ⟨b, none, 0, [], rfl, Row.empty _ _ _⟩
  · simp at hcs hz
    subst hcs
    have hlen : (zs.take l).length = l := by rw [List.length_take]; omega
    refine ⟨b, some x, c, zs.take l, by rw [hlen], ⟨by omega, hm, fun h => (by cases h), fun x' hx i hi => ?_, fun n hn => ?_⟩⟩
    · cases hx
      rw [hcell i (by omega), List.getElem?_take_of_lt (by omega)]
      simp
    · have := hwz n (List.mem_of_mem_take hn)
      simp [Lit.wf, IntKind.min, IntKind.max, IntKind.signed, IntKind.bits] at this
      omega
end Go.Proofs.Ytdcjgepgiaaaoab
