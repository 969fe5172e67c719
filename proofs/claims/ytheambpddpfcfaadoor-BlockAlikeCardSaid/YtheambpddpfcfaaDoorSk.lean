/- The contracts of package sum's small functions. -/
import Derived.Test.YtheambpddpfcfaaDoorRows
import Derived.Test.YtheambpddpfcfaaDoorSm
import Derived.Test.YtheambpddpfcfaaDoorWu
import Derived.WalkKit
import Derived.ProofKit
import Derived.Outline
import Derived.Deep.QuietTactic
import Derived.BigQuiet
namespace Go.Proofs.YtheambpddpfcfaaDoor.Sk
set_option linter.unusedVariables false
set_option linter.unusedSimpArgs false
set_option maxRecDepth 100000
open Go.ChangeShapes Go.WideShapes Go.ChangeAt Go.RowKit
open Go.Proofs.YtheambpddpfcfaaDoor.Wu Go.Proofs.YtheambpddpfcfaaDoor.Sm

theorem and31 (n s : Nat) (hn : 1 ≤ n) (hn' : n ≤ 31) (hs : s = 32 - n) : bits .and .u64 (IntKind.u64.wrap (-(n : Int))) 31 = (s : Int) := by
  rw [IntKind.wrap_u64]
  have e : (-(n : Int)) % 18446744073709551616 = ((18446744073709551616 - n : Nat) : Int) := by omega
  rw [e, u64_and _ _ (by omega) (by omega) (by omega) (by omega), Int.toNat_natCast, show (31 : Int).toNat = 2 ^ 5 - 1 from rfl, Nat.and_two_pow_sub_one_eq_mod]
  omega
theorem rot_is (x n s : Nat) (hx : x < 4294967296) (hn : 1 ≤ n) (hn' : n ≤ 31) (hs : s = 32 - n) :
    bits .or .u32 ((x : Int) * 2 ^ s % 4294967296) ((x : Int) / 2 ^ (32 - s)) = (rotr x n : Int) := by
  have e1 : (x : Int) * 2 ^ s % 4294967296 = (((x <<< s) % 4294967296 : Nat) : Int) := by
    rw [Nat.shiftLeft_eq, Int.natCast_emod, Int.natCast_mul, Int.natCast_pow]; rfl
  have e2 : ((x : Int) / 2 ^ (32 - s)) = ((x >>> n : Nat) : Int) := by
    rw [show 32 - s = n by omega, Nat.shiftRight_eq_div_pow, Int.natCast_ediv, Int.natCast_pow]; rfl
  rw [e1, e2, u32_or_nat _ _ (Nat.mod_lt _ (by decide)) (shr_lt hx)]
  unfold rotr
  rw [Nat.or_comm, ← hs]
theorem turned_any (x n : Nat) (w : World) (hx : x < 4294967296) (hn : 1 ≤ n) (hn' : n ≤ 31) :
    Calls Tryd.prog 134 #[.int .u32 (x : Int), .int .i64 (n : Int)] w fun e w' => e = .returned (.int .u32 (rotr x n : Int)) ∧ w = w' := by
  obtain ⟨s, hs⟩ : ∃ s, s = 32 - n := ⟨_, rfl⟩
  have ha := and31 n s hn hn' hs
  have Hr := hide (rot_is x n s hx hn hn' hs)
  have hs1 : 1 ≤ s := by omega
  have hs2 : s ≤ 31 := by omega
  have HS := hide hs
  clear hs
  go_enter Tryd.func134, Tryd.ntmps134
  go_wp2
  go_ret
  refine ⟨?_, rfl⟩
  show Ending.returned (.int .u32 (bits .or .u32 ((x : Int) * 2 ^ s % 4294967296) ((x : Int) / 2 ^ (32 - s)))) = _
  rw [Hr.out]
theorem turned_2 (x : Nat) (w : World) (hx : x < 4294967296) :
    Calls Tryd.prog 134 #[.int .u32 (x : Int), .int .i64 2] w fun e w' => e = .returned (.int .u32 (rotr x 2 : Int)) ∧ w = w' := turned_any x 2 w hx (by decide) (by decide)
theorem turned_13 (x : Nat) (w : World) (hx : x < 4294967296) :
    Calls Tryd.prog 134 #[.int .u32 (x : Int), .int .i64 13] w fun e w' => e = .returned (.int .u32 (rotr x 13 : Int)) ∧ w = w' := turned_any x 13 w hx (by decide) (by decide)
theorem turned_22 (x : Nat) (w : World) (hx : x < 4294967296) :
    Calls Tryd.prog 134 #[.int .u32 (x : Int), .int .i64 22] w fun e w' => e = .returned (.int .u32 (rotr x 22 : Int)) ∧ w = w' := turned_any x 22 w hx (by decide) (by decide)
theorem turned_6 (x : Nat) (w : World) (hx : x < 4294967296) :
    Calls Tryd.prog 134 #[.int .u32 (x : Int), .int .i64 6] w fun e w' => e = .returned (.int .u32 (rotr x 6 : Int)) ∧ w = w' := turned_any x 6 w hx (by decide) (by decide)
theorem turned_11 (x : Nat) (w : World) (hx : x < 4294967296) :
    Calls Tryd.prog 134 #[.int .u32 (x : Int), .int .i64 11] w fun e w' => e = .returned (.int .u32 (rotr x 11 : Int)) ∧ w = w' := turned_any x 11 w hx (by decide) (by decide)
theorem turned_25 (x : Nat) (w : World) (hx : x < 4294967296) :
    Calls Tryd.prog 134 #[.int .u32 (x : Int), .int .i64 25] w fun e w' => e = .returned (.int .u32 (rotr x 25 : Int)) ∧ w = w' := turned_any x 25 w hx (by decide) (by decide)
theorem turned_7 (x : Nat) (w : World) (hx : x < 4294967296) :
    Calls Tryd.prog 134 #[.int .u32 (x : Int), .int .i64 7] w fun e w' => e = .returned (.int .u32 (rotr x 7 : Int)) ∧ w = w' := turned_any x 7 w hx (by decide) (by decide)
theorem turned_18 (x : Nat) (w : World) (hx : x < 4294967296) :
    Calls Tryd.prog 134 #[.int .u32 (x : Int), .int .i64 18] w fun e w' => e = .returned (.int .u32 (rotr x 18 : Int)) ∧ w = w' := turned_any x 18 w hx (by decide) (by decide)
theorem turned_17 (x : Nat) (w : World) (hx : x < 4294967296) :
    Calls Tryd.prog 134 #[.int .u32 (x : Int), .int .i64 17] w fun e w' => e = .returned (.int .u32 (rotr x 17 : Int)) ∧ w = w' := turned_any x 17 w hx (by decide) (by decide)
theorem turned_19 (x : Nat) (w : World) (hx : x < 4294967296) :
    Calls Tryd.prog 134 #[.int .u32 (x : Int), .int .i64 19] w fun e w' => e = .returned (.int .u32 (rotr x 19 : Int)) ∧ w = w' := turned_any x 19 w hx (by decide) (by decide)
theorem bS0_c (x : Nat) (w : World) (hx : x < 4294967296) :
    Calls Tryd.prog 124 #[.int .u32 (x : Int)] w fun e w' => e = .returned (.int .u32 (bS0 x : Int)) ∧ w = w' := by
  go_enter Tryd.func124, Tryd.ntmps124
  go_wp2_with fail
  refine (turned_2 x _ hx).mono ?_
  rintro e w1 ⟨rfl, rfl⟩
  go_wp2_with fail
  refine (turned_13 x _ hx).mono ?_
  rintro e w1 ⟨rfl, rfl⟩
  have h1 := u32_xor_nat (rotr x 2) (rotr x 13) (rotr_lt hx) (rotr_lt hx)
  go_wp2_with fail
  refine (turned_22 x _ hx).mono ?_
  rintro e w1 ⟨rfl, rfl⟩
  have h2 := u32_xor_nat (rotr x 2 ^^^ rotr x 13) (rotr x 22) (xor_lt (rotr_lt hx) (rotr_lt hx)) (rotr_lt hx)
  go_wp2
  go_ret
  exact ⟨rfl, rfl⟩
theorem bS1_c (x : Nat) (w : World) (hx : x < 4294967296) :
    Calls Tryd.prog 122 #[.int .u32 (x : Int)] w fun e w' => e = .returned (.int .u32 (bS1 x : Int)) ∧ w = w' := by
  go_enter Tryd.func122, Tryd.ntmps122
  go_wp2_with fail
  refine (turned_6 x _ hx).mono ?_
  rintro e w1 ⟨rfl, rfl⟩
  go_wp2_with fail
  refine (turned_11 x _ hx).mono ?_
  rintro e w1 ⟨rfl, rfl⟩
  have h1 := u32_xor_nat (rotr x 6) (rotr x 11) (rotr_lt hx) (rotr_lt hx)
  go_wp2_with fail
  refine (turned_25 x _ hx).mono ?_
  rintro e w1 ⟨rfl, rfl⟩
  have h2 := u32_xor_nat (rotr x 6 ^^^ rotr x 11) (rotr x 25) (xor_lt (rotr_lt hx) (rotr_lt hx)) (rotr_lt hx)
  go_wp2
  go_ret
  exact ⟨rfl, rfl⟩
theorem lS0_c (x : Nat) (w : World) (hx : x < 4294967296) :
    Calls Tryd.prog 133 #[.int .u32 (x : Int)] w fun e w' => e = .returned (.int .u32 (lS0 x : Int)) ∧ w = w' := by
  go_enter Tryd.func133, Tryd.ntmps133
  go_wp2_with fail
  refine (turned_7 x _ hx).mono ?_
  rintro e w1 ⟨rfl, rfl⟩
  go_wp2_with fail
  refine (turned_18 x _ hx).mono ?_
  rintro e w1 ⟨rfl, rfl⟩
  have h1 := u32_xor_nat (rotr x 7) (rotr x 18) (rotr_lt hx) (rotr_lt hx)
  have h3 : ((x : Int) / (8 : Int)) = ((x >>> 3 : Nat) : Int) := by rw [Nat.shiftRight_eq_div_pow]; rfl
  have h2 : bits .xor .u32 ((rotr x 7 ^^^ rotr x 18 : Nat) : Int) ((x : Int) / (8 : Int)) = ((rotr x 7 ^^^ rotr x 18 ^^^ x >>> 3 : Nat) : Int) := by
    rw [h3]; exact u32_xor_nat _ _ (xor_lt (rotr_lt hx) (rotr_lt hx)) (shr_lt hx)
  clear h3
  go_wp2
  go_ret
  exact ⟨rfl, rfl⟩
theorem lS1_c (x : Nat) (w : World) (hx : x < 4294967296) :
    Calls Tryd.prog 132 #[.int .u32 (x : Int)] w fun e w' => e = .returned (.int .u32 (lS1 x : Int)) ∧ w = w' := by
  go_enter Tryd.func132, Tryd.ntmps132
  go_wp2_with fail
  refine (turned_17 x _ hx).mono ?_
  rintro e w1 ⟨rfl, rfl⟩
  go_wp2_with fail
  refine (turned_19 x _ hx).mono ?_
  rintro e w1 ⟨rfl, rfl⟩
  have h1 := u32_xor_nat (rotr x 17) (rotr x 19) (rotr_lt hx) (rotr_lt hx)
  have h3 : ((x : Int) / (1024 : Int)) = ((x >>> 10 : Nat) : Int) := by rw [Nat.shiftRight_eq_div_pow]; rfl
  have h2 : bits .xor .u32 ((rotr x 17 ^^^ rotr x 19 : Nat) : Int) ((x : Int) / (1024 : Int)) = ((rotr x 17 ^^^ rotr x 19 ^^^ x >>> 10 : Nat) : Int) := by
    rw [h3]; exact u32_xor_nat _ _ (xor_lt (rotr_lt hx) (rotr_lt hx)) (shr_lt hx)
  clear h3
  go_wp2
  go_ret
  exact ⟨rfl, rfl⟩
theorem not_is (x : Nat) (hx : x < 4294967296) : 4294967295 ^^^ x = 4294967295 - x := by
  apply Nat.eq_of_testBit_eq
  intro i
  have e : 4294967295 - x = 2 ^ 32 - (x + 1) := by omega
  rw [e, Nat.testBit_two_pow_sub_succ (by rw [pow32]; exact hx), Nat.testBit_xor, show (4294967295 : Nat) = 2 ^ 32 - 1 by decide, Nat.testBit_two_pow_sub_one]
  by_cases h : i < 32
  · simp [h]
  · have hb : x.testBit i = false := Nat.testBit_lt_two_pow (Nat.lt_of_lt_of_le (by rw [pow32]; exact hx) (Nat.pow_le_pow_right (by decide) (by omega)))
    simp [h, hb]
theorem chs_is (x y z : Nat) (hx : x < 4294967296) (hy : y < 4294967296) (hz : z < 4294967296) :
    bits .xor .u32 (bits .and .u32 (x : Int) (y : Int)) (bits .and .u32 (bits .xor .u32 IntKind.u32.max (x : Int)) (z : Int)) = (chs x y z : Int) := by
  have e : bits .xor .u32 IntKind.u32.max (x : Int) = ((4294967295 - x : Nat) : Int) := by
    rw [← not_is x hx]
    exact u32_xor_nat 4294967295 x (by decide) hx
  rw [e, u32_and_nat _ _ hx hy, u32_and_nat _ _ (by omega) hz, u32_xor_nat _ _ (and_lt hy) (and_lt hz)]
  rfl
theorem chs_c (x y z : Nat) (w : World) (hx : x < 4294967296) (hy : y < 4294967296) (hz : z < 4294967296) :
    Calls Tryd.prog 123 #[.int .u32 (x : Int), .int .u32 (y : Int), .int .u32 (z : Int)] w fun e w' => e = .returned (.int .u32 (chs x y z : Int)) ∧ w = w' := by
  have H := hide (chs_is x y z hx hy hz)
  go_enter Tryd.func123, Tryd.ntmps123
  go_wp2
  go_ret
  refine ⟨?_, rfl⟩
  show Ending.returned (.int .u32 (bits .xor .u32 (bits .and .u32 (x : Int) (y : Int)) (bits .and .u32 (bits .xor .u32 IntKind.u32.max (x : Int)) (z : Int)))) = _
  rw [H.out]
theorem maj_c (x y z : Nat) (w : World) (hx : x < 4294967296) (hy : y < 4294967296) (hz : z < 4294967296) :
    Calls Tryd.prog 125 #[.int .u32 (x : Int), .int .u32 (y : Int), .int .u32 (z : Int)] w fun e w' => e = .returned (.int .u32 (maj x y z : Int)) ∧ w = w' := by
  have h1 := u32_and_nat x y hx hy
  have h2 := u32_and_nat x z hx hz
  have h3 := u32_and_nat y z hy hz
  have h4 := u32_xor_nat (x &&& y) (x &&& z) (and_lt hy) (and_lt hz)
  have h5 := u32_xor_nat (x &&& y ^^^ x &&& z) (y &&& z) (xor_lt (and_lt hy) (and_lt hz)) (and_lt hz)
  go_enter Tryd.func125, Tryd.ntmps125
  go_wp2
  go_ret
  exact ⟨rfl, rfl⟩
end Go.Proofs.YtheambpddpfcfaaDoor.Sk
