/- LookupDeep: its runs at 4. -/
import Derived.Test.YtkljlbilhcdjhaaGreatDoorLpA
namespace Go.Proofs.YtkljlbilhcdjhaaGreatDoor
open Cx
set_option maxRecDepth 1000000
theorem deep_4_false_false : deepTrue 4 false false = true := (exNC_eq Tryz.prog G0 100000 none deepRest (deepEnv 4 false false) h0 (endTrue Tryz.f3.results.toList)).symm.trans (by kernel_rfl)
theorem deep_4_false_true : deepTrue 4 false true = true := (exNC_eq Tryz.prog G0 100000 none deepRest (deepEnv 4 false true) h0 (endTrue Tryz.f3.results.toList)).symm.trans (by kernel_rfl)
theorem deep_4_true_false : deepTrue 4 true false = true := (exNC_eq Tryz.prog G0 100000 none deepRest (deepEnv 4 true false) h0 (endTrue Tryz.f3.results.toList)).symm.trans (by kernel_rfl)
theorem deep_4_true_true : deepTrue 4 true true = true := (exNC_eq Tryz.prog G0 100000 none deepRest (deepEnv 4 true true) h0 (endTrue Tryz.f3.results.toList)).symm.trans (by kernel_rfl)
end Go.Proofs.YtkljlbilhcdjhaaGreatDoor
