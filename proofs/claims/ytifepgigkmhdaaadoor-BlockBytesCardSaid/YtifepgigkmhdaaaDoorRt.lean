/- The reference's text behind its length. -/
import Derived.Test.YtifepgigkmhdaaaDoorRn
namespace Go.Proofs.YtifepgigkmhdaaaDoor.Rt
set_option linter.unusedVariables false
set_option linter.unusedSimpArgs false
set_option maxRecDepth 100000
open Go.ChangeShapes Go.WideShapes Go.ChangeAt Go.RowKit
open Go.Proofs.YtifepgigkmhdaaaDoor.Wu Go.Proofs.YtifepgigkmhdaaaDoor.Sm Go.Proofs.YtifepgigkmhdaaaDoor.Sh Go.Proofs.YtifepgigkmhdaaaDoor.Ba Go.Proofs.YtifepgigkmhdaaaDoor.Bp Go.Proofs.YtifepgigkmhdaaaDoor.Bq Go.Proofs.YtifepgigkmhdaaaDoor.Cm Go.Proofs.YtifepgigkmhdaaaDoor.Cn Go.Proofs.YtifepgigkmhdaaaDoor.Bs Go.Proofs.YtifepgigkmhdaaaDoor.Cy Go.Proofs.YtifepgigkmhdaaaDoor.Rn
/-- A text behind its length. -/
def txtL (L : List Nat) : List Nat := numL (L.take 4096).length ++ L.take 4096
theorem strN_take (L : List Nat) (n : Nat) : (strN L).extract 0 n = strN (L.take n) := by
  unfold strN strOfNums
  apply ByteArray.ext
  simp [ByteArray.data_extract]
end Go.Proofs.YtifepgigkmhdaaaDoor.Rt
