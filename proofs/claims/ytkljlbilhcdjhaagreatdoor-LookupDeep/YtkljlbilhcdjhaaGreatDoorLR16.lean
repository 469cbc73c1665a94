/- LookupDeep: its runs at 16. -/
import Derived.Test.YtkljlbilhcdjhaaGreatDoorLpA
namespace Go.Proofs.YtkljlbilhcdjhaaGreatDoor
open Cx
set_option maxRecDepth 1000000
theorem deep_16_false_false : deepTrue 16 false false = true := (exNC_eq Tryz.prog G0 100000 none deepRest (deepEnv 16 false false) h0 (endTrue Tryz.f3.results.toList)).symm.trans (by kernel_rfl)
theorem deep_16_false_true : deepTrue 16 false true = true := (exNC_eq Tryz.prog G0 100000 none deepRest (deepEnv 16 false true) h0 (endTrue Tryz.f3.results.toList)).symm.trans (by kernel_rfl)
theorem deep_16_true_false : deepTrue 16 true false = true := (exNC_eq Tryz.prog G0 100000 none deepRest (deepEnv 16 true false) h0 (endTrue Tryz.f3.results.toList)).symm.trans (by kernel_rfl)
theorem deep_16_true_true : deepTrue 16 true true = true := (exNC_eq Tryz.prog G0 100000 none deepRest (deepEnv 16 true true) h0 (endTrue Tryz.f3.results.toList)).symm.trans (by kernel_rfl)
end Go.Proofs.YtkljlbilhcdjhaaGreatDoor
