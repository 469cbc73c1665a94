/- LookupDeep: its runs at 7. -/
import Derived.Test.YtkljlbilhcdjhaaGreatDoorLpA
namespace Go.Proofs.YtkljlbilhcdjhaaGreatDoor
open Cx
set_option maxRecDepth 1000000
theorem deep_7_false_false : deepTrue 7 false false = true := (exNC_eq Tryz.prog G0 100000 none deepRest (deepEnv 7 false false) h0 (endTrue Tryz.f3.results.toList)).symm.trans (by kernel_rfl)
theorem deep_7_false_true : deepTrue 7 false true = true := (exNC_eq Tryz.prog G0 100000 none deepRest (deepEnv 7 false true) h0 (endTrue Tryz.f3.results.toList)).symm.trans (by kernel_rfl)
theorem deep_7_true_false : deepTrue 7 true false = true := (exNC_eq Tryz.prog G0 100000 none deepRest (deepEnv 7 true false) h0 (endTrue Tryz.f3.results.toList)).symm.trans (by kernel_rfl)
theorem deep_7_true_true : deepTrue 7 true true = true := (exNC_eq Tryz.prog G0 100000 none deepRest (deepEnv 7 true true) h0 (endTrue Tryz.f3.results.toList)).symm.trans (by kernel_rfl)
end Go.Proofs.YtkljlbilhcdjhaaGreatDoor
