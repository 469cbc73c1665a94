/- LookupDeep: its runs at 12. -/
import Derived.Test.YtkljlbilhcdjhaaGreatDoorLpA
namespace Go.Proofs.YtkljlbilhcdjhaaGreatDoor
open Cx
set_option maxRecDepth 1000000
theorem deep_12_false_false : deepTrue 12 false false = true := (exNC_eq Tryz.prog G0 100000 none deepRest (deepEnv 12 false false) h0 (endTrue Tryz.f3.results.toList)).symm.trans (by kernel_rfl)
theorem deep_12_false_true : deepTrue 12 false true = true := (exNC_eq Tryz.prog G0 100000 none deepRest (deepEnv 12 false true) h0 (endTrue Tryz.f3.results.toList)).symm.trans (by kernel_rfl)
theorem deep_12_true_false : deepTrue 12 true false = true := (exNC_eq Tryz.prog G0 100000 none deepRest (deepEnv 12 true false) h0 (endTrue Tryz.f3.results.toList)).symm.trans (by kernel_rfl)
theorem deep_12_true_true : deepTrue 12 true true = true := (exNC_eq Tryz.prog G0 100000 none deepRest (deepEnv 12 true true) h0 (endTrue Tryz.f3.results.toList)).symm.trans (by kernel_rfl)
end Go.Proofs.YtkljlbilhcdjhaaGreatDoor
