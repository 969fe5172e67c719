/- The laws' plain (layer 4). -/
import Derived.Test.YtofflmhfffphdaaDoorFc
import Derived.Test.YtofflmhfffphdaaDoorBs
namespace Go.Proofs.YtofflmhfffphdaaDoor.Fp
set_option linter.unusedVariables false
set_option linter.unusedSimpArgs false
set_option maxRecDepth 100000
open Go.ChangeShapes Go.WideShapes Go.ChangeAt Go.RowKit
open Go.Proofs.YtofflmhfffphdaaDoor.Wu Go.Proofs.YtofflmhfffphdaaDoor.Sm Go.Proofs.YtofflmhfffphdaaDoor.Sh Go.Proofs.YtofflmhfffphdaaDoor.Ba Go.Proofs.YtofflmhfffphdaaDoor.Bp Go.Proofs.YtofflmhfffphdaaDoor.Bs Go.Proofs.YtofflmhfffphdaaDoor.Fc
theorem load_plain {W : World} {b : Nat} {x y z : Value} {T : TypeId} {f : Nat × Nat} (h : W.heap[b]? = some (.cells #[x, y, z] T f)) : Sem.run Tryd.prog (loadVar 58 ⟨b, 0, none⟩) W = .ok (.agg #[x, y, z]) W :=
  run_loadVar_mid (P := Tryd.prog) W b 0 58 [x, y, z] _ (range3 h) Tryd.underlying58 rfl (by kernel_rfl)
end Go.Proofs.YtofflmhfffphdaaDoor.Fp
