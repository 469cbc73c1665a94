/- LookupDeep: its runs at 9. -/
import Derived.Test.YtkljlbilhcdjhaaGreatDoorLpA
namespace Go.Proofs.YtkljlbilhcdjhaaGreatDoor
open Cx
set_option maxRecDepth 1000000
theorem deep_9_false_false : deepTrue 9 false false = true := (exNC_eq Tryz.prog G0 100000 none deepRest (deepEnv 9 false false) h0 (endTrue Tryz.f3.results.toList)).symm.trans (by kernel_rfl)
theorem deep_9_false_true : deepTrue 9 false true = true := (exNC_eq Tryz.prog G0 100000 none deepRest (deepEnv 9 false true) h0 (endTrue Tryz.f3.results.toList)).symm.trans (by kernel_rfl)
theorem deep_9_true_false : deepTrue 9 true false = true := (exNC_eq Tryz.prog G0 100000 none deepRest (deepEnv 9 true false) h0 (endTrue Tryz.f3.results.toList)).symm.trans (by kernel_rfl)
theorem deep_9_true_true : deepTrue 9 true true = true := (exNC_eq Tryz.prog G0 100000 none deepRest (deepEnv 9 true true) h0 (endTrue Tryz.f3.results.toList)).symm.trans (by kernel_rfl)
end Go.Proofs.YtkljlbilhcdjhaaGreatDoor
