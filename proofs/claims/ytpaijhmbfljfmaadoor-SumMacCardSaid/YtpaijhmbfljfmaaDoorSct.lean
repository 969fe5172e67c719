/- The reference's Cut. -/
import Derived.Test.YtpaijhmbfljfmaaDoorSrf
import Derived.Test.YtpaijhmbfljfmaaDoorSu
namespace Go.Proofs.YtpaijhmbfljfmaaDoor.Sct
set_option linter.unusedVariables false
set_option linter.unusedSimpArgs false
set_option maxRecDepth 100000
open Go.ChangeShapes Go.WideShapes Go.ChangeAt Go.RowKit
open Go.Proofs.YtpaijhmbfljfmaaDoor.Wu Go.Proofs.YtpaijhmbfljfmaaDoor.Sm Go.Proofs.YtpaijhmbfljfmaaDoor.Sk Go.Proofs.YtpaijhmbfljfmaaDoor.Sc Go.Proofs.YtpaijhmbfljfmaaDoor.Sxa Go.Proofs.YtpaijhmbfljfmaaDoor.Sh Go.Proofs.YtpaijhmbfljfmaaDoor.Sn Go.Proofs.YtpaijhmbfljfmaaDoor.Sw0 Go.Proofs.YtpaijhmbfljfmaaDoor.Sx Go.Proofs.YtpaijhmbfljfmaaDoor.Sw Go.Proofs.YtpaijhmbfljfmaaDoor.Sb Go.Proofs.YtpaijhmbfljfmaaDoor.Sf Go.Proofs.YtpaijhmbfljfmaaDoor.So Go.Proofs.YtpaijhmbfljfmaaDoor.Su Go.Proofs.YtpaijhmbfljfmaaDoor.Sv Go.Proofs.YtpaijhmbfljfmaaDoor.Ap Go.Proofs.YtpaijhmbfljfmaaDoor.Sr Go.Proofs.YtpaijhmbfljfmaaDoor.Srf0 Go.Proofs.YtpaijhmbfljfmaaDoor.Srf1 Go.Proofs.YtpaijhmbfljfmaaDoor.Rk Go.Proofs.YtpaijhmbfljfmaaDoor.Sza Go.Proofs.YtpaijhmbfljfmaaDoor.Szb Go.Proofs.YtpaijhmbfljfmaaDoor.Srf Go.Proofs.YtpaijhmbfljfmaaDoor.St
attribute [local go_sem] kUpon_value kUpon_skip kUpon_enter

/-- The row when the bytes from k up to i are noughts. -/
def cutR (k i : Nat) (X : List Nat) : List Nat := X.take k ++ zeros (min i 32 - k) ++ X.drop i
theorem cutR_length (k i : Nat) (X : List Nat) (hX : X.length = 32) (hk : k ≤ 32) (hi : k ≤ i) : (cutR k i X).length = 32 := by
  simp [cutR, zeros, hX]; omega
theorem cutR_start (k i : Nat) (X : List Nat) (hX : X.length = 32) (h : (i ≤ 32 ∧ k = i) ∨ (32 < i ∧ k = 32)) : cutR k i X = X := by
  unfold cutR
  rcases h with ⟨h1, rfl⟩ | ⟨h1, rfl⟩
  · rw [show min k 32 - k = 0 by omega]; simp [zeros]
  · rw [show min i 32 - 32 = 0 by omega, List.take_of_length_le (by omega), List.drop_eq_nil_of_le (by omega)]; simp [zeros]
theorem cutR_end (k i : Nat) (X : List Nat) (hX : X.length = 32) (hk : k ≤ 32) (hi : 32 ≤ i) : cutR k i X = cutL k X := by
  unfold cutR cutL
  rw [show min i 32 = 32 by omega, List.drop_eq_nil_of_le (by omega), List.append_nil]
theorem cutR_step (k i : Nat) (X : List Nat) (hX : X.length = 32) (hk : k ≤ i) (hi : i < 32) : (cutR k i X).set i 0 = cutR k (i + 1) X := by
  unfold cutR
  have hl : (X.take k ++ zeros (min i 32 - k)).length = i := by simp [zeros, hX]; omega
  rw [List.set_append_right _ _ (by omega), hl, Nat.sub_self, List.drop_eq_getElem_cons (by omega), List.set_cons_zero, show min (i + 1) 32 - k = (min i 32 - k) + 1 by omega]
  have hz : zeros (min i 32 - k + 1) = zeros (min i 32 - k) ++ [0] := by unfold zeros; exact List.replicate_succ'
  rw [hz]
  simp
end Go.Proofs.YtpaijhmbfljfmaaDoor.Sct
