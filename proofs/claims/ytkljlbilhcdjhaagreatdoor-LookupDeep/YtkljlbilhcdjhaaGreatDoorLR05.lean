/- LookupDeep: its runs at 5. -/
import Derived.Test.YtkljlbilhcdjhaaGreatDoorLpA
namespace Go.Proofs.YtkljlbilhcdjhaaGreatDoor
open Cx
set_option maxRecDepth 1000000
theorem deep_5_false_false : deepTrue 5 false false = true := (exNC_eq Tryz.prog G0 100000 none deepRest (deepEnv 5 false false) h0 (endTrue Tryz.f3.results.toList)).symm.trans (by kernel_rfl)
theorem deep_5_false_true : deepTrue 5 false true = true := (exNC_eq Tryz.prog G0 100000 none deepRest (deepEnv 5 false true) h0 (endTrue Tryz.f3.results.toList)).symm.trans (by kernel_rfl)
theorem deep_5_true_false : deepTrue 5 true false = true := (exNC_eq Tryz.prog G0 100000 none deepRest (deepEnv 5 true false) h0 (endTrue Tryz.f3.results.toList)).symm.trans (by kernel_rfl)
theorem deep_5_true_true : deepTrue 5 true true = true := (exNC_eq Tryz.prog G0 100000 none deepRest (deepEnv 5 true true) h0 (endTrue Tryz.f3.results.toList)).symm.trans (by kernel_rfl)
end Go.Proofs.YtkljlbilhcdjhaaGreatDoor
