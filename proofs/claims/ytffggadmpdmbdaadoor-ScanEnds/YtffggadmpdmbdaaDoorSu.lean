/- ScanEnds: the law's texts, scanned. -/
import Derived.Test.YtffggadmpdmbdaaDoorSt
namespace Go.Proofs.YtffggadmpdmbdaaDoor
open Go.RowKit
attribute [local go_sem ↓] Go.wp_at_zero Go.wp_at_succ
def wordsL : List (List UInt8) := [[97], [49], [50, 46, 53], [34, 115, 34], [96, 114, 96], [98, 114, 101, 97, 107], [99, 111, 110, 116, 105, 110, 117, 101], [114, 101, 116, 117, 114, 110], [43, 43], [45, 45], [41], [93], [125], [102, 117, 110, 99], [105, 102], [43], [40], [91], [123], [44], [46], [58, 61], [61], [58], [126], [101, 108, 115, 101], [114, 97, 110, 103, 101], [38, 94, 61]]
def srcL (k : Nat) (c : Bool) : List UInt8 := (wordsL[k]?.getD []) ++ (if c then [32, 47, 42, 32, 120, 10, 32, 42, 47, 32] else []) ++ [10, 98]
def semiB (ts : List Tok) : Bool := match ts with
  | [_, t, _, _, _] => decide (t.kind = 7) && (t.text.data.toList == [10])
  | _ => false
def endsB (k : Nat) (c : Bool) : Bool := match scanM (srcL k c) with
  | some (.good ts) => semiB ts == decide (k < 13)
  | _ => false
theorem ends_all : (List.range 28).all (fun k => endsB k true && endsB k false) = true := by kernel_rfl
end Go.Proofs.YtffggadmpdmbdaaDoor
