/- A frame that is cut: what is read of it. Plain numbers. -/
import Derived.Test.YtpaijhmbfljfmaaDoorFi
namespace Go.Proofs.YtpaijhmbfljfmaaDoor.Fk
set_option linter.unusedVariables false
set_option linter.unusedSimpArgs false
set_option maxRecDepth 100000
open Go.Proofs.YtpaijhmbfljfmaaDoor.Sm Go.Proofs.YtpaijhmbfljfmaaDoor.Sh Go.Proofs.YtpaijhmbfljfmaaDoor.Ba Go.Proofs.YtpaijhmbfljfmaaDoor.Cm Go.Proofs.YtpaijhmbfljfmaaDoor.Cn Go.Proofs.YtpaijhmbfljfmaaDoor.Cr Go.Proofs.YtpaijhmbfljfmaaDoor.Cv Go.Proofs.YtpaijhmbfljfmaaDoor.Fa Go.Proofs.YtpaijhmbfljfmaaDoor.Fc Go.Proofs.YtpaijhmbfljfmaaDoor.Fh Go.Proofs.YtpaijhmbfljfmaaDoor.Fi
theorem numP_cut : ∀ (n j i acc : Nat), j < (numL n).length → i + (numL n).length ≤ 6 → numP ((numL n).take j) i acc = .bad 30 := by
  intro n
  induction n using Nat.strongRecOn with
  | _ n ih =>
    intro j i acc hj hl
    cases j with
    | zero => rw [List.take_zero]; rfl
    | succ j =>
      by_cases h : n < 128
      · rw [numL_small n h] at hj
        simp at hj
      · rw [numL_big n h] at hj hl ⊢
        simp only [List.length_cons] at hj hl
        rw [List.take_succ_cons]
        unfold numP
        have hp := numL_pos (n / 128)
        rw [if_neg (by omega), if_pos (by omega)]
        exact ih (n / 128) (by omega) j (i + 1) _ (by omega) (by omega)
theorem read_cut (k s : Nat) (D : List Nat) (cut : Nat) (hk1 : 1 ≤ k) (hk2 : k ≤ 31) (hs : s ≤ 7) (hl : D.length ≤ 16384) (hc : cut < (frL k s D).length) : readR ((frL k s D).take cut) = .bad 30 (cut : Int) := by
  have h6 := numL_six D.length (by omega)
  have hpl := numL_pos D.length
  cases cut with
  | zero => rw [List.take_zero]; rfl
  | succ j =>
    have hfl : frL k s D = (8 * k + s) :: (numL D.length ++ D) := by unfold frL; simp
    have hlen : (frL k s D).length = 1 + (numL D.length).length + D.length := by rw [hfl]; simp; omega
    obtain ⟨L, hL⟩ : ∃ L, L = (frL k s D).take (j + 1) := ⟨_, rfl⟩
    rw [← hL]
    have hL1 : L = (8 * k + s) :: (numL D.length ++ D).take j := by rw [hL, hfl, List.take_succ_cons]
    have hLl : L.length = j + 1 := by rw [hL, List.length_take]; omega
    have hb1 : s0.has L.length 1 = s0 := by unfold Rs.has; rw [if_neg (by show ¬ (_ ∧ L.length < 0 + 1); omega)]
    have hb2 : s0.byte L = ⟨1, 0, 0⟩ := by unfold Rs.byte; rw [hb1, if_pos (show s0.fe = 0 from rfl)]; rfl
    have hb3 : s0.byteV L = 8 * k + s := by unfold Rs.byteV; rw [hb1, if_pos (show s0.fe = 0 from rfl), hL1]; rfl
    have hd1 : L.drop 1 = (numL D.length ++ D).take j := by rw [hL1]; rfl
    unfold readR headR
    rw [hb2, hb3, if_neg (by omega)]
    by_cases hj : j < (numL D.length).length
    · have hn : numP (L.drop 1) 0 0 = .bad 30 := by
        rw [hd1, List.take_append_of_le_length (by omega)]
        exact numP_cut _ _ _ _ hj (by omega)
      have e1 : Rs.num ⟨1, 0, 0⟩ L = ⟨1, (L.length : Int), 30⟩ := by
        unfold Rs.num
        rw [if_pos rfl]
        simp only
        rw [hn]
        simp
      rw [e1, if_pos (by simp), hLl]
    · have hn : numP (L.drop 1) 0 0 = .ok D.length (numL D.length).length := by
        have := numP_numL (D.take (j - (numL D.length).length)) D.length 0 0 (by omega) (by omega) (by omega)
        rw [hd1, List.take_append, List.take_of_length_le (by omega)]
        simpa using this
      have e1 : Rs.num ⟨1, 0, 0⟩ L = ⟨1 + (numL D.length).length, 0, 0⟩ := by
        unfold Rs.num
        rw [if_pos rfl]
        simp only
        rw [hn]
      have e2 : Rs.numV ⟨1, 0, 0⟩ L = D.length := by
        unfold Rs.numV
        rw [if_pos rfl]
        simp only
        rw [hn]
      rw [e1, e2, if_neg (by simp), if_neg (by omega)]
      simp only
      rw [if_pos (by omega), hLl]
end Go.Proofs.YtpaijhmbfljfmaaDoor.Fk
