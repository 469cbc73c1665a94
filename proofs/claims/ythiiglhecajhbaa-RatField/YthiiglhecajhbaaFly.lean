/- What the library's functions answer here: strings.IndexAny, Index of one byte, CutPrefix. -/
import Derived.Test.YthiiglhecajhbaaChecked
import Derived.Shelf.Strings.IndexAny
import Derived.Shelf.Strings.Search2
import Derived.Shelf.Small.Wraps
import Derived.Ground.NamesProg
namespace Go.Proofs.Ythiiglhecajhbaa
open Go.Shelf Go.RowKit Go.Lib
def Try.indexAny_ren : Go.Shelf.Ren := ⟨fun | 153 => 52 | 152 => 68 | 226 => 69 | 227 => 70 | 228 => 71 | 137 => 79 | 119 => 80 | 224 => 81 | 225 => 82 | 217 => 83 | 266 => 90 | n => n, fun | 9 => 9 | 3 => 3 | 4 => 4 | 5 => 5 | 21 => 21 | 117 => 98 | 116 => 97 | 0 => 0 | 46 => 55 | 124 => 107 | n => n, fun | n => n⟩
theorem Try.indexAny : Go.Proofs.Lays.n153 Try.prog Try.indexAny_ren := {
  mixed := by kernel_rfl
  f119 := Try.func80.trans (congrArg some (by kernel_rfl))
  f137 := Try.func79.trans (congrArg some (by kernel_rfl))
  f152 := Try.func68.trans (congrArg some (by kernel_rfl))
  f153 := Try.func52.trans (congrArg some (by kernel_rfl))
  f217 := Try.func83.trans (congrArg some (by kernel_rfl))
  f224 := Try.func81.trans (congrArg some (by kernel_rfl))
  f225 := Try.func82.trans (congrArg some (by kernel_rfl))
  f226 := Try.func69.trans (congrArg some (by kernel_rfl))
  f227 := Try.func70.trans (congrArg some (by kernel_rfl))
  f228 := Try.func71.trans (congrArg some (by kernel_rfl))
  f266 := Try.func90.trans (congrArg some (by kernel_rfl))
  t0 := Try.underlying0
  a0 := Try.isAgg0
  z0 := Try.sizeOf0
  v0 := Try.zeroValue0
  t3 := Try.underlying3
  a3 := Try.isAgg3
  z3 := Try.sizeOf3
  v3 := Try.zeroValue3
  t4 := Try.underlying4
  a4 := Try.isAgg4
  z4 := Try.sizeOf4
  v4 := Try.zeroValue4
  t5 := Try.underlying5
  a5 := Try.isAgg5
  z5 := Try.sizeOf5
  v5 := Try.zeroValue5
  t9 := Try.underlying9
  a9 := Try.isAgg9
  z9 := Try.sizeOf9
  v9 := Try.zeroValue9
  t21 := Try.underlying21
  a21 := Try.isAgg21
  z21 := Try.sizeOf21
  v21 := Try.zeroValue21
  t46 := Try.underlying55
  a46 := Try.isAgg55
  z46 := Try.sizeOf55
  v46 := Try.zeroValue55
  t116 := Try.underlying97
  a116 := Try.isAgg97
  z116 := Try.sizeOf97
  t117 := Try.underlying98
  a117 := Try.isAgg98
  z117 := Try.sizeOf98
  v117 := Try.zeroValue98
  t124 := Try.underlying107
  a124 := Try.isAgg107
  z124 := Try.sizeOf107
  v124 := Try.zeroValue107 }
def Try.indexLite_ren : Go.Shelf.Ren := ⟨fun | 219 => 72 | 217 => 83 | 225 => 82 | 224 => 81 | 267 => 84 | 266 => 90 | 314 => 91 | n => n, fun | 9 => 9 | 3 => 3 | 4 => 4 | 5 => 5 | 46 => 55 | 146 => 101 | 51 => 54 | n => n, fun | 1 => 0 | n => n⟩
theorem Try.indexLite : Go.Proofs.Lays.n219 Try.prog Try.indexLite_ren := {
  mixed := by kernel_rfl
  f217 := Try.func83.trans (congrArg some (by kernel_rfl))
  f219 := Try.func72.trans (congrArg some (by kernel_rfl))
  f224 := Try.func81.trans (congrArg some (by kernel_rfl))
  f225 := Try.func82.trans (congrArg some (by kernel_rfl))
  f266 := Try.func90.trans (congrArg some (by kernel_rfl))
  f267 := Try.func84.trans (congrArg some (by kernel_rfl))
  f314 := Try.func91.trans (congrArg some (by kernel_rfl))
  t3 := Try.underlying3
  a3 := Try.isAgg3
  z3 := Try.sizeOf3
  v3 := Try.zeroValue3
  t4 := Try.underlying4
  a4 := Try.isAgg4
  z4 := Try.sizeOf4
  v4 := Try.zeroValue4
  t5 := Try.underlying5
  a5 := Try.isAgg5
  z5 := Try.sizeOf5
  v5 := Try.zeroValue5
  t9 := Try.underlying9
  a9 := Try.isAgg9
  z9 := Try.sizeOf9
  v9 := Try.zeroValue9
  t46 := Try.underlying55
  a46 := Try.isAgg55
  z46 := Try.sizeOf55
  v46 := Try.zeroValue55
  t51 := Try.underlying54
  a51 := Try.isAgg54
  z51 := Try.sizeOf54
  v51 := Try.zeroValue54
  t146 := Try.underlying101
  a146 := Try.isAgg101
  z146 := Try.sizeOf101
  v146 := Try.zeroValue101
  g1 := by kernel_rfl }
def Try.cutPrefix_ren : Go.Shelf.Ren := ⟨fun | 103 => 57 | 210 => 73 | 206 => 85 | n => n, fun | 9 => 9 | 4 => 4 | 24 => 84 | 3 => 3 | n => n, fun | n => n⟩
theorem Try.cutPrefix : Go.Proofs.Lays.n103 Try.prog Try.cutPrefix_ren := {
  mixed := by kernel_rfl
  f103 := Try.func57.trans (congrArg some (by kernel_rfl))
  f206 := Try.func85.trans (congrArg some (by kernel_rfl))
  f210 := Try.func73.trans (congrArg some (by kernel_rfl))
  t3 := Try.underlying3
  a3 := Try.isAgg3
  z3 := Try.sizeOf3
  v3 := Try.zeroValue3
  t4 := Try.underlying4
  a4 := Try.isAgg4
  z4 := Try.sizeOf4
  v4 := Try.zeroValue4
  t9 := Try.underlying9
  a9 := Try.isAgg9
  z9 := Try.sizeOf9
  v9 := Try.zeroValue9
  t24 := Try.underlying84
  a24 := Try.isAgg84
  z24 := Try.sizeOf84
  v24 := Try.zeroValue84 }
end Go.Proofs.Ythiiglhecajhbaa
