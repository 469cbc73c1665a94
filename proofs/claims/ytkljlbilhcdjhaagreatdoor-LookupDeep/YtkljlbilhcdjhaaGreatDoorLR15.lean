/- LookupDeep: its runs at 15. -/
import Derived.Test.YtkljlbilhcdjhaaGreatDoorLpA
namespace Go.Proofs.YtkljlbilhcdjhaaGreatDoor
open Cx
set_option maxRecDepth 1000000
theorem deep_15_false_false : deepTrue 15 false false = true := (exNC_eq Tryz.prog G0 100000 none deepRest (deepEnv 15 false false) h0 (endTrue Tryz.f3.results.toList)).symm.trans (by kernel_rfl)
theorem deep_15_false_true : deepTrue 15 false true = true := (exNC_eq Tryz.prog G0 100000 none deepRest (deepEnv 15 false true) h0 (endTrue Tryz.f3.results.toList)).symm.trans (by kernel_rfl)
theorem deep_15_true_false : deepTrue 15 true false = true := (exNC_eq Tryz.prog G0 100000 none deepRest (deepEnv 15 true false) h0 (endTrue Tryz.f3.results.toList)).symm.trans (by kernel_rfl)
theorem deep_15_true_true : deepTrue 15 true true = true := (exNC_eq Tryz.prog G0 100000 none deepRest (deepEnv 15 true true) h0 (endTrue Tryz.f3.results.toList)).symm.trans (by kernel_rfl)
end Go.Proofs.YtkljlbilhcdjhaaGreatDoor
