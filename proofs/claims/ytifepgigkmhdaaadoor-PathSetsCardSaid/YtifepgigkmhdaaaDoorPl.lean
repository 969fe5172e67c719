/- The library's contracts for strings, laid at the program. -/
import Derived.Test.YtifepgigkmhdaaaDoorRows
import Derived.Shelf.Strings.Split
import Derived.Shelf.Small.Wraps
import Derived.Shelf.Strings.Prefix
namespace Go.Proofs.YtifepgigkmhdaaaDoor.Pl
set_option linter.unusedVariables false
open Go.Shelf
def lay221_ren : Go.Shelf.Ren := ⟨(fun | 138 => 137 | 143 => 138 | 195 => 147 | 197 => 148 | 217 => 157 | 218 => 149 | 219 => 150 | 221 => 122 | 224 => 159 | 225 => 158 | 260 => 156 | 266 => 163 | 267 => 160 | 268 => 136 | 314 => 164 | n => n), (fun | 0 => 0 | 3 => 3 | 4 => 4 | 5 => 5 | 9 => 9 | 21 => 21 | 31 => 84 | 46 => 144 | 51 => 68 | 105 => 249 | 119 => 254 | 138 => 256 | 139 => 257 | 146 => 258 | n => n), (fun | 1 => 3 | 3 => 4 | 4 => 5 | n => n)⟩
theorem lay221 : Lays.n221 Tryd.prog lay221_ren := {
  mixed := by kernel_rfl
  f138 := Tryd.func137.trans (congrArg some (by kernel_rfl))
  f143 := Tryd.func138.trans (congrArg some (by kernel_rfl))
  f195 := Tryd.func147.trans (congrArg some (by kernel_rfl))
  f197 := Tryd.func148.trans (congrArg some (by kernel_rfl))
  f217 := Tryd.func157.trans (congrArg some (by kernel_rfl))
  f218 := Tryd.func149.trans (congrArg some (by kernel_rfl))
  f219 := Tryd.func150.trans (congrArg some (by kernel_rfl))
  f221 := Tryd.func122.trans (congrArg some (by kernel_rfl))
  f224 := Tryd.func159.trans (congrArg some (by kernel_rfl))
  f225 := Tryd.func158.trans (congrArg some (by kernel_rfl))
  f260 := Tryd.func156.trans (congrArg some (by kernel_rfl))
  f266 := Tryd.func163.trans (congrArg some (by kernel_rfl))
  f267 := Tryd.func160.trans (congrArg some (by kernel_rfl))
  f268 := Tryd.func136.trans (congrArg some (by kernel_rfl))
  f314 := Tryd.func164.trans (congrArg some (by kernel_rfl))
  t0 := Tryd.underlying0
  a0 := Tryd.isAgg0
  z0 := Tryd.sizeOf0
  v0 := Tryd.zeroValue0
  t3 := Tryd.underlying3
  a3 := Tryd.isAgg3
  z3 := Tryd.sizeOf3
  v3 := Tryd.zeroValue3
  t4 := Tryd.underlying4
  a4 := Tryd.isAgg4
  z4 := Tryd.sizeOf4
  v4 := Tryd.zeroValue4
  t5 := Tryd.underlying5
  a5 := Tryd.isAgg5
  z5 := Tryd.sizeOf5
  v5 := Tryd.zeroValue5
  t9 := Tryd.underlying9
  a9 := Tryd.isAgg9
  z9 := Tryd.sizeOf9
  v9 := Tryd.zeroValue9
  t21 := Tryd.underlying21
  a21 := Tryd.isAgg21
  z21 := Tryd.sizeOf21
  v21 := Tryd.zeroValue21
  t31 := Tryd.underlying84
  a31 := Tryd.isAgg84
  z31 := Tryd.sizeOf84
  v31 := Tryd.zeroValue84
  t46 := Tryd.underlying144
  a46 := Tryd.isAgg144
  z46 := Tryd.sizeOf144
  v46 := Tryd.zeroValue144
  t51 := Tryd.underlying68
  a51 := Tryd.isAgg68
  z51 := Tryd.sizeOf68
  v51 := Tryd.zeroValue68
  t105 := Tryd.underlying249
  a105 := Tryd.isAgg249
  z105 := Tryd.sizeOf249
  v105 := Tryd.zeroValue249
  t119 := Tryd.underlying254
  a119 := Tryd.isAgg254
  z119 := Tryd.sizeOf254
  t138 := Tryd.underlying256
  a138 := Tryd.isAgg256
  z138 := Tryd.sizeOf256
  v138 := Tryd.zeroValue256
  t139 := Tryd.underlying257
  a139 := Tryd.isAgg257
  z139 := Tryd.sizeOf257
  v139 := Tryd.zeroValue257
  t146 := Tryd.underlying258
  a146 := Tryd.isAgg258
  z146 := Tryd.sizeOf258
  v146 := Tryd.zeroValue258
  g1 := by kernel_rfl
  g3 := by kernel_rfl
  g4 := by kernel_rfl }
def lay103_ren : Go.Shelf.Ren := ⟨(fun | 103 => 139 | 206 => 161 | 210 => 151 | n => n), (fun | 3 => 3 | 4 => 4 | 9 => 9 | 24 => 114 | n => n), (fun | n => n)⟩
theorem lay103 : Lays.n103 Tryd.prog lay103_ren := {
  mixed := by kernel_rfl
  f103 := Tryd.func139.trans (congrArg some (by kernel_rfl))
  f206 := Tryd.func161.trans (congrArg some (by kernel_rfl))
  f210 := Tryd.func151.trans (congrArg some (by kernel_rfl))
  t3 := Tryd.underlying3
  a3 := Tryd.isAgg3
  z3 := Tryd.sizeOf3
  v3 := Tryd.zeroValue3
  t4 := Tryd.underlying4
  a4 := Tryd.isAgg4
  z4 := Tryd.sizeOf4
  v4 := Tryd.zeroValue4
  t9 := Tryd.underlying9
  a9 := Tryd.isAgg9
  z9 := Tryd.sizeOf9
  v9 := Tryd.zeroValue9
  t24 := Tryd.underlying114
  a24 := Tryd.isAgg114
  z24 := Tryd.sizeOf114
  v24 := Tryd.zeroValue114 }
end Go.Proofs.YtifepgigkmhdaaaDoor.Pl
