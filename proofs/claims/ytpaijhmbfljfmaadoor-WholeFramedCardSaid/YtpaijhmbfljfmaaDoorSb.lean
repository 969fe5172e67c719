/- bytesOf: a word as four bytes, the highest first. -/
import Derived.Test.YtpaijhmbfljfmaaDoorSxa
import Derived.Test.YtpaijhmbfljfmaaDoorSh
namespace Go.Proofs.YtpaijhmbfljfmaaDoor.Sb
set_option linter.unusedVariables false
set_option linter.unusedSimpArgs false
set_option maxRecDepth 100000
open Go.ChangeShapes Go.WideShapes Go.ChangeAt Go.RowKit
open Go.Proofs.YtpaijhmbfljfmaaDoor.Wu Go.Proofs.YtpaijhmbfljfmaaDoor.Sm Go.Proofs.YtpaijhmbfljfmaaDoor.Sk Go.Proofs.YtpaijhmbfljfmaaDoor.Sc Go.Proofs.YtpaijhmbfljfmaaDoor.Sxa Go.Proofs.YtpaijhmbfljfmaaDoor.Sh

theorem info4 : (Tryd.prog.info? 151).map (·.size) = some 4 := by kernel_rfl
theorem four_is (x : Nat) (hx : x < 4294967296) : (#[Value.int IntKind.u8 ((x : Int) / 16777216), Value.int IntKind.u8 ((x : Int) / 65536 % 256), Value.int IntKind.u8 ((x : Int) / 256 % 256), Value.int IntKind.u8 ((x : Int) % 256)] : Array Value) = u8s (four x) := by
  have e : (x : Int) / 16777216 = ((x / 16777216 % 256 : Nat) : Int) := by omega
  rw [e]
  simp [u8s, four]
theorem range8_all {w : World} {B : Nat} {X : List Nat} {T : TypeId} {f : Nat × Nat} (h : w.heap[B]? = some (.cells (u8s X) T f)) : w.rangeAt B 0 (u8s X).toList := fun j v hv => by
  refine blk_cell h ?_
  simpa using hv
theorem bytesOf_c (x : Nat) (w : World) (hx : x < 4294967296) :
    Calls Tryd.prog 99 #[.int .u32 (x : Int)] w fun e w' => e = .returned (.agg (u8s (four x))) ∧ Below w.heap.size w w' := by
  go_enter Tryd.func99, Tryd.ntmps99
  go_wp2_with fail
  rw [four_is x hx]
  refine bodyPost_ret (v := .agg (u8s (four x))) ?_ rfl ⟨rfl, below_new _ _⟩
  rw [results_one_cell Tryd.results99]
  have h4 := run_loadVar_mid (P := Tryd.prog) (w.alloc (.cells (u8s (four x)) 151)) w.heap.size 0 151 (u8s (four x)).toList _ (range8_all (heap_last w _)) Tryd.underlying151 rfl (by rw [info4]; simp [u8s_size, four])
  simpa [asAddr, Act.put] using h4
end Go.Proofs.YtpaijhmbfljfmaaDoor.Sb
