/- The library's contracts for strings, laid at the program. -/
import Derived.Test.YtlhjkacdhfchiaaDoorRows
import Derived.Shelf.Strings.Split
import Derived.Shelf.Small.Wraps
import Derived.Shelf.Strings.Prefix
namespace Go.Proofs.YtlhjkacdhfchiaaDoor.Pl
set_option linter.unusedVariables false
open Go.Shelf
def lay221_ren : Go.Shelf.Ren := ⟨(fun | 138 => 132 | 143 => 133 | 195 => 139 | 197 => 140 | 217 => 145 | 218 => 141 | 219 => 142 | 221 => 121 | 224 => 147 | 225 => 146 | 260 => 144 | 266 => 149 | 267 => 148 | 268 => 131 | 314 => 150 | n => n), (fun | 0 => 0 | 3 => 3 | 4 => 4 | 5 => 5 | 9 => 9 | 21 => 21 | 31 => 52 | 46 => 214 | 51 => 192 | 105 => 226 | 119 => 230 | 138 => 232 | 139 => 233 | 146 => 234 | n => n), (fun | 1 => 1 | 3 => 2 | 4 => 3 | n => n)⟩
theorem lay221 : Lays.n221 Tryd.prog lay221_ren := {
  mixed := by kernel_rfl
  f138 := Tryd.func132.trans (congrArg some (by kernel_rfl))
  f143 := Tryd.func133.trans (congrArg some (by kernel_rfl))
  f195 := Tryd.func139.trans (congrArg some (by kernel_rfl))
  f197 := Tryd.func140.trans (congrArg some (by kernel_rfl))
  f217 := Tryd.func145.trans (congrArg some (by kernel_rfl))
  f218 := Tryd.func141.trans (congrArg some (by kernel_rfl))
  f219 := Tryd.func142.trans (congrArg some (by kernel_rfl))
  f221 := Tryd.func121.trans (congrArg some (by kernel_rfl))
  f224 := Tryd.func147.trans (congrArg some (by kernel_rfl))
  f225 := Tryd.func146.trans (congrArg some (by kernel_rfl))
  f260 := Tryd.func144.trans (congrArg some (by kernel_rfl))
  f266 := Tryd.func149.trans (congrArg some (by kernel_rfl))
  f267 := Tryd.func148.trans (congrArg some (by kernel_rfl))
  f268 := Tryd.func131.trans (congrArg some (by kernel_rfl))
  f314 := Tryd.func150.trans (congrArg some (by kernel_rfl))
  t0 := Tryd.underlying0
  a0 := Tryd.isAgg0
  z0 := Tryd.sizeOf0
  v0 := Tryd.zeroValue0
  t3 := Tryd.underlying3
  a3 := Tryd.isAgg3
  z3 := Tryd.sizeOf3
  v3 := Tryd.zeroValue3
  t4 := Tryd.underlying4
  a4 := Tryd.isAgg4
  z4 := Tryd.sizeOf4
  v4 := Tryd.zeroValue4
  t5 := Tryd.underlying5
  a5 := Tryd.isAgg5
  z5 := Tryd.sizeOf5
  v5 := Tryd.zeroValue5
  t9 := Tryd.underlying9
  a9 := Tryd.isAgg9
  z9 := Tryd.sizeOf9
  v9 := Tryd.zeroValue9
  t21 := Tryd.underlying21
  a21 := Tryd.isAgg21
  z21 := Tryd.sizeOf21
  v21 := Tryd.zeroValue21
  t31 := Tryd.underlying52
  a31 := Tryd.isAgg52
  z31 := Tryd.sizeOf52
  v31 := Tryd.zeroValue52
  t46 := Tryd.underlying214
  a46 := Tryd.isAgg214
  z46 := Tryd.sizeOf214
  v46 := Tryd.zeroValue214
  t51 := Tryd.underlying192
  a51 := Tryd.isAgg192
  z51 := Tryd.sizeOf192
  v51 := Tryd.zeroValue192
  t105 := Tryd.underlying226
  a105 := Tryd.isAgg226
  z105 := Tryd.sizeOf226
  v105 := Tryd.zeroValue226
  t119 := Tryd.underlying230
  a119 := Tryd.isAgg230
  z119 := Tryd.sizeOf230
  t138 := Tryd.underlying232
  a138 := Tryd.isAgg232
  z138 := Tryd.sizeOf232
  v138 := Tryd.zeroValue232
  t139 := Tryd.underlying233
  a139 := Tryd.isAgg233
  z139 := Tryd.sizeOf233
  v139 := Tryd.zeroValue233
  t146 := Tryd.underlying234
  a146 := Tryd.isAgg234
  z146 := Tryd.sizeOf234
  v146 := Tryd.zeroValue234
  g1 := by kernel_rfl
  g3 := by kernel_rfl
  g4 := by kernel_rfl }
def lay103_ren : Go.Shelf.Ren := ⟨(fun | 103 => 109 | 206 => 135 | 210 => 125 | n => n), (fun | 3 => 3 | 4 => 4 | 9 => 9 | 24 => 147 | n => n), (fun | n => n)⟩
theorem lay103 : Lays.n103 Tryd.prog lay103_ren := {
  mixed := by kernel_rfl
  f103 := Tryd.func109.trans (congrArg some (by kernel_rfl))
  f206 := Tryd.func135.trans (congrArg some (by kernel_rfl))
  f210 := Tryd.func125.trans (congrArg some (by kernel_rfl))
  t3 := Tryd.underlying3
  a3 := Tryd.isAgg3
  z3 := Tryd.sizeOf3
  v3 := Tryd.zeroValue3
  t4 := Tryd.underlying4
  a4 := Tryd.isAgg4
  z4 := Tryd.sizeOf4
  v4 := Tryd.zeroValue4
  t9 := Tryd.underlying9
  a9 := Tryd.isAgg9
  z9 := Tryd.sizeOf9
  v9 := Tryd.zeroValue9
  t24 := Tryd.underlying147
  a24 := Tryd.isAgg147
  z24 := Tryd.sizeOf147
  v24 := Tryd.zeroValue147 }
end Go.Proofs.YtlhjkacdhfchiaaDoor.Pl
