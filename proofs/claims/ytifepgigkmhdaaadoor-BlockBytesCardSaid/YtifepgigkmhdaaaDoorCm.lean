/- Numbers as bytes: digits to the base 128. Plain numbers, nothing of the program. -/
import Derived.Test.YtifepgigkmhdaaaDoorPa
namespace Go.Proofs.YtifepgigkmhdaaaDoor.Cm
set_option linter.unusedVariables false
open Go.Proofs.YtifepgigkmhdaaaDoor.Sm Go.Proofs.YtifepgigkmhdaaaDoor.Sh
/-- A number's bytes. -/
def numL (n : Nat) : List Nat := if h : n < 128 then [n] else (n % 128 + 128) :: numL (n / 128)
termination_by n
decreasing_by omega
theorem numL_small (n : Nat) (h : n < 128) : numL n = [n] := by rw [numL, dif_pos h]
theorem numL_big (n : Nat) (h : ¬ n < 128) : numL n = (n % 128 + 128) :: numL (n / 128) := by rw [numL, dif_neg h]
theorem numL_all (n : Nat) : All8 (numL n) := by
  induction n using numL.induct with
  | case1 n h => rw [numL_small n h]; intro x hx; simp only [List.mem_singleton] at hx; omega
  | case2 n h ih =>
    rw [numL_big n h]
    intro x hx
    rcases List.mem_cons.1 hx with rfl | hx
    · omega
    · exact ih x hx
theorem numL_pos (n : Nat) : 0 < (numL n).length := by
  rw [numL]; split <;> simp
theorem numL_le (n : Nat) : (numL n).length ≤ n + 1 := by
  induction n using numL.induct with
  | case1 n h => rw [numL_small n h]; simp
  | case2 n h ih => rw [numL_big n h, List.length_cons]; omega
theorem numL_six (n : Nat) (h : n ≤ 1099511627776) : (numL n).length ≤ 6 := by
  have step : ∀ (k n : Nat), n < 128 ^ (k + 1) → (numL n).length ≤ k + 1 := by
    intro k
    induction k with
    | zero => intro n hn; rw [numL_small n (by simpa using hn)]; simp
    | succ k ih =>
      intro n hn
      by_cases h : n < 128
      · rw [numL_small n h]; simp
      · rw [numL_big n h, List.length_cons]
        have := ih (n / 128) (by rw [Nat.div_lt_iff_lt_mul (by omega), ← Nat.pow_succ]; exact hn)
        omega
  exact step 5 n (by omega)
theorem numL_inj : ∀ (a b : Nat), numL a = numL b → a = b := by
  intro a
  induction a using numL.induct with
  | case1 a h =>
    intro b hb
    rw [numL_small a h] at hb
    by_cases h' : b < 128
    · rw [numL_small b h'] at hb; simpa using hb
    · rw [numL_big b h'] at hb
      have := congrArg List.length hb
      have hp := numL_pos (b / 128)
      simp only [List.length_cons, List.length_nil] at this; omega
  | case2 a h ih =>
    intro b hb
    rw [numL_big a h] at hb
    by_cases h' : b < 128
    · rw [numL_small b h'] at hb
      have := congrArg List.length hb
      have hp := numL_pos (a / 128)
      simp only [List.length_cons, List.length_nil] at this; omega
    · rw [numL_big b h'] at hb
      simp only [List.cons.injEq] at hb
      have := ih (b / 128) hb.2
      omega
theorem numL_mono {a b : Nat} (h : a ≤ b) : (numL a).length ≤ (numL b).length := by
  induction b using numL.induct generalizing a with
  | case1 b hb => rw [numL_small b hb, numL_small a (by omega)]; exact Nat.le_refl _
  | case2 b hb ih =>
    rw [numL_big b hb]
    by_cases ha : a < 128
    · rw [numL_small a ha]; simp
    · rw [numL_big a ha, List.length_cons, List.length_cons]
      have := ih (a := a / 128) (Nat.div_le_div_right h)
      omega
/-- Every digit but the last is 128 or more. -/
theorem numL_last (n i : Nat) (hi : i < (numL n).length) : ((numL n).getD i 0 < 128) ↔ i + 1 = (numL n).length := by
  induction n using numL.induct generalizing i with
  | case1 n h =>
    rw [numL_small n h] at hi ⊢
    simp at hi
    subst hi
    simp [h]
  | case2 n h ih =>
    rw [numL_big n h] at hi ⊢
    cases i with
    | zero =>
      have hp := numL_pos (n / 128)
      simp only [List.getD_cons_zero, List.length_cons]
      omega
    | succ i =>
      simp only [List.getD_cons_succ, List.length_cons] at hi ⊢
      rw [ih i (by omega)]; omega
end Go.Proofs.YtifepgigkmhdaaaDoor.Cm
