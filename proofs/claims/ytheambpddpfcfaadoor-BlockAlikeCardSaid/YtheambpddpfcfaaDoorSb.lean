/- bytesOf: a word as four bytes, the highest first. -/
import Derived.Test.YtheambpddpfcfaaDoorSxa
import Derived.Test.YtheambpddpfcfaaDoorSh
namespace Go.Proofs.YtheambpddpfcfaaDoor.Sb
set_option linter.unusedVariables false
set_option linter.unusedSimpArgs false
set_option maxRecDepth 100000
open Go.ChangeShapes Go.WideShapes Go.ChangeAt Go.RowKit
open Go.Proofs.YtheambpddpfcfaaDoor.Wu Go.Proofs.YtheambpddpfcfaaDoor.Sm Go.Proofs.YtheambpddpfcfaaDoor.Sk Go.Proofs.YtheambpddpfcfaaDoor.Sc Go.Proofs.YtheambpddpfcfaaDoor.Sxa Go.Proofs.YtheambpddpfcfaaDoor.Sh

theorem info4 : (Tryd.prog.info? 207).map (·.size) = some 4 := by kernel_rfl
theorem four_is (x : Nat) (hx : x < 4294967296) : (#[Value.int IntKind.u8 ((x : Int) / 16777216), Value.int IntKind.u8 ((x : Int) / 65536 % 256), Value.int IntKind.u8 ((x : Int) / 256 % 256), Value.int IntKind.u8 ((x : Int) % 256)] : Array Value) = u8s (four x) := by
  have e : (x : Int) / 16777216 = ((x / 16777216 % 256 : Nat) : Int) := by omega
  rw [e]
  simp [u8s, four]
theorem range8_all {w : World} {B : Nat} {X : List Nat} {T : TypeId} {f : Nat × Nat} (h : w.heap[B]? = some (.cells (u8s X) T f)) : w.rangeAt B 0 (u8s X).toList := fun j v hv => by
  refine blk_cell h ?_
  simpa using hv
theorem bytesOf_c (x : Nat) (w : World) (hx : x < 4294967296) :
    Calls Tryd.prog 113 #[.int .u32 (x : Int)] w fun e w' => e = .returned (.agg (u8s (four x))) ∧ Below w.heap.size w w' := by
  go_enter Tryd.func113, Tryd.ntmps113
  go_wp2_with fail
  rw [four_is x hx]
  refine bodyPost_ret (v := .agg (u8s (four x))) ?_ rfl ⟨rfl, below_new _ _⟩
  rw [results_one_cell Tryd.results113]
  have h4 := run_loadVar_mid (P := Tryd.prog) (w.alloc (.cells (u8s (four x)) 207)) w.heap.size 0 207 (u8s (four x)).toList _ (range8_all (heap_last w _)) Tryd.underlying207 rfl (by rw [info4]; simp [u8s_size, four])
  simpa [asAddr, Act.put] using h4
end Go.Proofs.YtheambpddpfcfaaDoor.Sb
