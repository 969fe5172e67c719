/- The document's spelling of the standard's functions is the standard's. Plain numbers, nothing of the program. -/
import Derived.Test.YtheambpddpfcfaaDoorSh
namespace Go.Proofs.YtheambpddpfcfaaDoor.Sr
set_option linter.unusedVariables false
set_option linter.unusedSimpArgs false
set_option maxRecDepth 100000
open Go.Proofs.YtheambpddpfcfaaDoor.Sm Go.Proofs.YtheambpddpfcfaaDoor.Sh

theorem not_is (x : Nat) (hx : x < 4294967296) : 4294967295 ^^^ x = 4294967295 - x := by
  apply Nat.eq_of_testBit_eq
  intro i
  have e : 4294967295 - x = 2 ^ 32 - (x + 1) := by omega
  rw [e, Nat.testBit_two_pow_sub_succ (by rw [pow32]; exact hx), Nat.testBit_xor, show (4294967295 : Nat) = 2 ^ 32 - 1 by decide, Nat.testBit_two_pow_sub_one]
  by_cases h : i < 32
  · simp [h]
  · have hb : x.testBit i = false := Nat.testBit_lt_two_pow (Nat.lt_of_lt_of_le (by rw [pow32]; exact hx) (Nat.pow_le_pow_right (by decide) (by omega)))
    simp [h, hb]
theorem bit_hi {x i : Nat} (hx : x < 4294967296) (h : ¬ i < 32) : x.testBit i = false := Nat.testBit_lt_two_pow (Nat.lt_of_lt_of_le (by rw [pow32]; exact hx) (Nat.pow_le_pow_right (by decide) (by omega)))
theorem chs_or (x y z : Nat) (hx : x < 4294967296) (hy : y < 4294967296) (hz : z < 4294967296) : x &&& y ||| (4294967295 - x) &&& z = chs x y z := by
  unfold chs
  rw [← not_is x hx]
  apply Nat.eq_of_testBit_eq
  intro i
  simp only [Nat.testBit_or, Nat.testBit_and, Nat.testBit_xor, show (4294967295 : Nat) = 2 ^ 32 - 1 by decide, Nat.testBit_two_pow_sub_one]
  by_cases h : i < 32
  · cases x.testBit i <;> cases y.testBit i <;> cases z.testBit i <;> simp [h]
  · simp [h, bit_hi hx h, bit_hi hy h, bit_hi hz h]
theorem maj_or (x y z : Nat) : x &&& y ||| x &&& z ||| y &&& z = maj x y z := by
  unfold maj
  apply Nat.eq_of_testBit_eq
  intro i
  simp only [Nat.testBit_or, Nat.testBit_and, Nat.testBit_xor]
  cases x.testBit i <;> cases y.testBit i <;> cases z.testBit i <;> rfl
theorem or_mod (a b : Nat) : (a ||| b) % 4294967296 = a % 4294967296 ||| b % 4294967296 := by
  rw [← pow32]
  apply Nat.eq_of_testBit_eq
  intro i
  simp only [Nat.testBit_or, Nat.testBit_mod_two_pow]
  cases decide (i < 32) <;> simp
theorem right_is (x n : Nat) (hx : x < 4294967296) : (x >>> n ||| x <<< (32 - n)) % 4294967296 = rotr x n := by
  rw [or_mod, Nat.mod_eq_of_lt (shr_lt hx)]; rfl
end Go.Proofs.YtheambpddpfcfaaDoor.Sr
