/- The library's search among texts in their order, laid at the program. -/
import Derived.Test.YtlhjkacdhfchiaaDoorPs
import Derived.Shelf.Spec.SearchS
namespace Go.Proofs.YtlhjkacdhfchiaaDoor.Pt
set_option linter.unusedVariables false
open Go.Shelf Go.RowKit Go.ChangeShapes
open Go.Proofs.YtlhjkacdhfchiaaDoor.Wu Go.Proofs.YtlhjkacdhfchiaaDoor.Pd Go.Proofs.YtlhjkacdhfchiaaDoor.Ps
def lay26_ren : Go.Shelf.Ren := ⟨(fun | 26 => 108 | 33 => 123 | 34 => 124 | 38 => 134 | n => n), (fun | 0 => 0 | 3 => 3 | 4 => 4 | 9 => 9 | 24 => 52 | 40 => 214 | n => n), (fun | n => n)⟩
theorem lay26 : Lays2.n26 Tryd.prog lay26_ren := {
  mixed := by kernel_rfl
  f26 := Tryd.func108.trans (congrArg some (by kernel_rfl))
  f33 := Tryd.func123.trans (congrArg some (by kernel_rfl))
  f34 := Tryd.func124.trans (congrArg some (by kernel_rfl))
  f38 := Tryd.func134.trans (congrArg some (by kernel_rfl))
  t0 := Tryd.underlying0
  a0 := Tryd.isAgg0
  z0 := Tryd.sizeOf0
  v0 := Tryd.zeroValue0
  t3 := Tryd.underlying3
  a3 := Tryd.isAgg3
  z3 := Tryd.sizeOf3
  v3 := Tryd.zeroValue3
  t4 := Tryd.underlying4
  a4 := Tryd.isAgg4
  z4 := Tryd.sizeOf4
  v4 := Tryd.zeroValue4
  t9 := Tryd.underlying9
  a9 := Tryd.isAgg9
  z9 := Tryd.sizeOf9
  v9 := Tryd.zeroValue9
  t24 := Tryd.underlying52
  a24 := Tryd.isAgg52
  z24 := Tryd.sizeOf52
  v24 := Tryd.zeroValue52
  t40 := Tryd.underlying214
  a40 := Tryd.isAgg214
  z40 := Tryd.sizeOf214
  v40 := Tryd.zeroValue214 }
/-- At which place a text stands, or would. -/
def place (S : List (List UInt8)) (p : List UInt8) : Nat := Lib.bsGo (fun t => Op.bytesLess ((S[t]?).getD []) p) S.length 0 S.length
theorem search_c (a : Option Addr) (cap : Nat) (S : List (List UInt8)) (p : List UInt8) (w : World) (hs : SrcS w a S) (hbig : S.length < 4611686018427387904) :
    Calls Tryd.prog 108 #[.slice a S.length cap, .string (bs p)] w fun e w' => ∃ f, e = .returned (.tuple #[.int .i64 ((place S p : Nat) : Int), .bool f]) ∧ ∃ q, w' = w.drewN q := by
  obtain ⟨b, off, ha, hc⟩ := hs
  by_cases h0 : S.length = 0
  · obtain rfl : S = [] := List.length_eq_zero_iff.1 h0
    refine (Any2.slices_BinarySearch_string_empty lay26 a cap (bs p) w).mono ?_
    rintro e w' ⟨rfl, rfl⟩
    exact ⟨false, rfl, 0, rfl⟩
  · have e := ha (by omega)
    subst e
    refine (Any2.slices_BinarySearch_string lay26 b off S.length cap (fun t => bs ((S[t]?).getD [])) (bs p) w hbig (fun j hj => ?_)).mono ?_
    · rw [hc j S[j] (List.getElem?_eq_getElem hj)]
      simp [hj]
    · rintro e w' ⟨he, q, hq⟩
      simp only [bs_toList] at he
      exact ⟨_, he, q, hq⟩
end Go.Proofs.YtlhjkacdhfchiaaDoor.Pt
