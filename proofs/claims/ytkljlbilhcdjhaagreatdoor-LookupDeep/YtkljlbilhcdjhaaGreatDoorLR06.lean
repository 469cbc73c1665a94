/- LookupDeep: its runs at 6. -/
import Derived.Test.YtkljlbilhcdjhaaGreatDoorLpA
namespace Go.Proofs.YtkljlbilhcdjhaaGreatDoor
open Cx
set_option maxRecDepth 1000000
theorem deep_6_false_false : deepTrue 6 false false = true := (exNC_eq Tryz.prog G0 100000 none deepRest (deepEnv 6 false false) h0 (endTrue Tryz.f3.results.toList)).symm.trans (by kernel_rfl)
theorem deep_6_false_true : deepTrue 6 false true = true := (exNC_eq Tryz.prog G0 100000 none deepRest (deepEnv 6 false true) h0 (endTrue Tryz.f3.results.toList)).symm.trans (by kernel_rfl)
theorem deep_6_true_false : deepTrue 6 true false = true := (exNC_eq Tryz.prog G0 100000 none deepRest (deepEnv 6 true false) h0 (endTrue Tryz.f3.results.toList)).symm.trans (by kernel_rfl)
theorem deep_6_true_true : deepTrue 6 true true = true := (exNC_eq Tryz.prog G0 100000 none deepRest (deepEnv 6 true true) h0 (endTrue Tryz.f3.results.toList)).symm.trans (by kernel_rfl)
end Go.Proofs.YtkljlbilhcdjhaaGreatDoor
