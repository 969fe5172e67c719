/- The reference's digits of a sum. -/
import Derived.Test.YtheambpddpfcfaaDoorSt
import Derived.StillTailTactics
import Derived.IntWalk
import Derived.Laws.Concat
namespace Go.Proofs.YtheambpddpfcfaaDoor.Srt
set_option linter.unusedVariables false
set_option linter.unusedSimpArgs false
set_option maxRecDepth 100000
open Go.ChangeShapes Go.WideShapes Go.ChangeAt Go.RowKit
open Go.Proofs.YtheambpddpfcfaaDoor.Wu Go.Proofs.YtheambpddpfcfaaDoor.Sm Go.Proofs.YtheambpddpfcfaaDoor.Sk Go.Proofs.YtheambpddpfcfaaDoor.Sc Go.Proofs.YtheambpddpfcfaaDoor.Sxa Go.Proofs.YtheambpddpfcfaaDoor.Sh Go.Proofs.YtheambpddpfcfaaDoor.Sn Go.Proofs.YtheambpddpfcfaaDoor.Sw0 Go.Proofs.YtheambpddpfcfaaDoor.Sx Go.Proofs.YtheambpddpfcfaaDoor.Sw Go.Proofs.YtheambpddpfcfaaDoor.Sb Go.Proofs.YtheambpddpfcfaaDoor.Sf Go.Proofs.YtheambpddpfcfaaDoor.So Go.Proofs.YtheambpddpfcfaaDoor.St

theorem strN_append (A B : List Nat) : strN A ++ strN B = strN (A ++ B) := by
  unfold strN strOfNums
  apply ByteArray.ext
  simp [ByteArray.data_append]
theorem add_strN (A B : List Nat) (hA : A.length ≤ 8000000) (hB : B.length ≤ 8000000) (u : World) : Sem.run Tryd.prog (Op.stringOp .add (strN A) (strN B)) u = .ok (.string (strN (A ++ B))) u := by
  have h := run_string_add (P := Tryd.prog) u (strN A) (strN B) (by rw [show (strN A).size = A.length by unfold strN; rw [strOfNums_size]; simp]; omega) (by rw [show (strN B).size = B.length by unfold strN; rw [strOfNums_size]; simp]; omega)
  rw [h, strN_append]
theorem strN_nil : (strN [] : ByteArray) = ⟨#[]⟩ := rfl
theorem strN_size (A : List Nat) : (strN A).size = A.length := by unfold strN; rw [strOfNums_size]; simp
theorem textL_snoc (X : List Nat) (k : Nat) (hk : k < X.length) : textL (X.take (k + 1)) = textL (X.take k) ++ [dg (X.getD k 0 / 16), dg (X.getD k 0 % 16)] := by
  have e1 : X.take (k + 1) = X.take k ++ [X.getD k 0] := by
    rw [List.take_succ_eq_append_getElem hk]; simp [List.getD, hk]
  rw [e1]; simp [textL]
end Go.Proofs.YtheambpddpfcfaaDoor.Srt
