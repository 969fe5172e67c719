/- The reference's text behind its length. -/
import Derived.Test.YtnjkjljalinibaaRn
namespace Go.Proofs.Ytnjkjljalinibaa.Rt
set_option linter.unusedVariables false
set_option linter.unusedSimpArgs false
open Go.ChangeShapes Go.WideShapes Go.ChangeAt Go.RowKit
open Go.Proofs.Ytnjkjljalinibaa.Wu Go.Proofs.Ytnjkjljalinibaa.Sm Go.Proofs.Ytnjkjljalinibaa.Sh Go.Proofs.Ytnjkjljalinibaa.Ba Go.Proofs.Ytnjkjljalinibaa.Bp Go.Proofs.Ytnjkjljalinibaa.Bq Go.Proofs.Ytnjkjljalinibaa.Cm Go.Proofs.Ytnjkjljalinibaa.Cn Go.Proofs.Ytnjkjljalinibaa.Bs Go.Proofs.Ytnjkjljalinibaa.Cy Go.Proofs.Ytnjkjljalinibaa.Rn
/-- A text behind its length. -/
def txtL (L : List Nat) : List Nat := numL (L.take 4096).length ++ L.take 4096
theorem strN_take (L : List Nat) (n : Nat) : (strN L).extract 0 n = strN (L.take n) := by
  unfold strN strOfNums
  apply ByteArray.ext
  simp [ByteArray.data_extract]
set_option maxHeartbeats 1600000 in
theorem refText_c (L : List Nat) (w : World) (hL : L.length ≤ 1000000) :
    Calls Try.prog 8 #[.string (strN L)] w fun e w' => e = .returned (.string (strN (txtL L))) ∧ Below w.heap.size w w' := by
  have hz := strN_size L
  by_cases h : L.length ≤ 4096
  · have HT : Hid (txtL L = numL L.length ++ L) := hide (by unfold txtL; rw [List.take_of_length_le h])
    have d : decide ((4096 : Int) < (L.length : Int)) = false := by simp; omega
    have h6 := numL_six L.length (by omega)
    have HAD := hide (fun (u : World) => add_strN (numL L.length) L (by omega) (by omega) u)
    go_enter Try.func8, Try.ntmps8
    go_wp2_with fail
    refine (refNum_mid L.length w (by omega)).mono ?_
    rintro e w1 ⟨rfl, hb⟩
    have HB := hide hb
    clear hb
    have hadd := HAD.out
    go_wp2
    go_ret
    refine ⟨?_, HB.out⟩
    rw [HT.out]
    rfl
  · have HT : Hid (txtL L = numL 4096 ++ L.take 4096) := hide (by unfold txtL; rw [show (L.take 4096).length = 4096 by rw [List.length_take]; omega])
    have h6 := numL_six 4096 (by omega)
    have HAD := hide (fun (u : World) => add_strN (numL 4096) (L.take 4096) (by omega) (by rw [List.length_take]; omega) u)
    have d : decide ((4096 : Int) < (L.length : Int)) = true := by simp; omega
    go_enter Try.func8, Try.ntmps8
    go_wp2_with fail
    rw [show min 4096 L.length = 4096 by omega, strN_take]
    refine (refNum_mid 4096 w (by omega)).mono ?_
    rintro e w1 ⟨rfl, hb⟩
    have HB := hide hb
    clear hb
    have hadd := HAD.out
    generalize L.take 4096 = L' at *
    clear hz
    go_wp2
    go_ret
    refine ⟨?_, HB.out⟩
    rw [HT.out]
    rfl
end Go.Proofs.Ytnjkjljalinibaa.Rt
