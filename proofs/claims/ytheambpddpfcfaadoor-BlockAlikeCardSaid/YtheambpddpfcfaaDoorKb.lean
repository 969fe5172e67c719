/- Block's small functions: Count, fits, span. -/
import Derived.Test.YtheambpddpfcfaaDoorKa
import Derived.Deep.RegionHeld3
namespace Go.Proofs.YtheambpddpfcfaaDoor.Kb
set_option linter.unusedVariables false
set_option linter.unusedSimpArgs false
set_option maxRecDepth 100000
open Go.ChangeShapes Go.WideShapes Go.ChangeAt Go.RowKit
open Go.Proofs.YtheambpddpfcfaaDoor.Wu Go.Proofs.YtheambpddpfcfaaDoor.Sm Go.Proofs.YtheambpddpfcfaaDoor.Sh Go.Proofs.YtheambpddpfcfaaDoor.Ba Go.Proofs.YtheambpddpfcfaaDoor.Bp Go.Proofs.YtheambpddpfcfaaDoor.Ka
theorem div_bd {l s : Int} (hl : 0 ≤ l) (hs : 1 ≤ s) : 0 ≤ l / s ∧ l / s ≤ l ∧ 0 ≤ l % s ∧ l % s < s ∧ (0 < l % s → l / s < l) := by
  have h1 := Int.ediv_nonneg hl (show 0 ≤ s by omega)
  have h2 : l / s ≤ l := Int.ediv_le_self _ hl
  have h3 := Int.emod_nonneg l (show s ≠ 0 by omega)
  have h4 := Int.emod_lt_of_pos l (show 0 < s by omega)
  refine ⟨h1, h2, h3, h4, fun h => ?_⟩
  rcases Int.lt_or_eq_of_le h2 with h5 | h5
  · exact h5
  · exfalso
    have h6 := Int.mul_ediv_add_emod l s
    rw [h5] at h6
    have h7 : l * 1 ≤ l * s := Int.mul_le_mul_of_nonneg_left hs hl
    rw [Int.mul_comm s l] at h6
    omega
theorem count_c (w : World) (l s : Int) (hl : l ≤ 9223372036854775807) :
    Calls Tryd.prog 31 #[.int .i64 l, .int .i64 s] w fun e w' => e = .returned (.int .i64 (cntZ l s)) ∧ w = w' := by
  unfold cntZ
  by_cases h1 : s < 1
  · rw [if_pos (.inl h1)]
    have d1 : decide (s < 1) = true := by simpa using h1
    clear h1 hl
    go_enter Tryd.func31, Tryd.ntmps31
    go_wp2
    go_ret
    exact ⟨rfl, rfl⟩
  · have d1 : decide (s < 1) = false := by simpa using h1
    by_cases h2 : l < 0
    · rw [if_pos (.inr h2)]
      have d2 : decide (l < 0) = true := by simpa using h2
      clear h1 h2 hl
      go_enter Tryd.func31, Tryd.ntmps31
      go_wp2
      go_ret
      exact ⟨rfl, rfl⟩
    · have d2 : decide (l < 0) = false := by simpa using h2
      rw [if_neg (by omega)]
      obtain ⟨b1, b2, b3, b4, b5⟩ := div_bd (show 0 ≤ l by omega) (show 1 ≤ s by omega)
      have e1 : l.tdiv s = l / s := Int.tdiv_eq_ediv_of_nonneg (by omega)
      have e2 : l.tmod s = l % s := Int.tmod_eq_emod_of_nonneg (by omega)
      have hs0 : s ≠ 0 := by omega
      have hs1 : s ≠ -1 := by omega
      generalize l / s = q at *
      generalize l % s = r at *
      by_cases h3 : 0 < r
      · rw [if_pos h3]
        have d3 : decide (0 < r) = true := by simpa using h3
        have b6 := b5 h3
        clear h1 h2 h3 b5
        go_enter Tryd.func31, Tryd.ntmps31
        go_wp2
        go_ret
        exact ⟨rfl, rfl⟩
      · rw [if_neg h3]
        have d3 : decide (0 < r) = false := by simpa using h3
        clear h1 h2 h3 b5
        go_enter Tryd.func31, Tryd.ntmps31
        go_wp2
        go_ret
        exact ⟨rfl, rfl⟩
theorem refcount_c (w : World) (l s : Int) (hl : l ≤ 9223372036854775807) :
    Calls Tryd.prog 32 #[.int .i64 l, .int .i64 s] w fun e w' => e = .returned (.int .i64 (cntZ l s)) ∧ w = w' := by
  unfold cntZ
  by_cases h1 : s < 1
  · rw [if_pos (.inl h1)]
    have d1 : decide (s < 1) = true := by simpa using h1
    clear h1 hl
    go_enter Tryd.func32, Tryd.ntmps32
    go_wp2
    go_ret
    exact ⟨rfl, rfl⟩
  · have d1 : decide (s < 1) = false := by simpa using h1
    by_cases h2 : l < 0
    · rw [if_pos (.inr h2)]
      have d2 : decide (l < 0) = true := by simpa using h2
      clear h1 h2 hl
      go_enter Tryd.func32, Tryd.ntmps32
      go_wp2
      go_ret
      exact ⟨rfl, rfl⟩
    · have d2 : decide (l < 0) = false := by simpa using h2
      rw [if_neg (by omega)]
      obtain ⟨b1, b2, b3, b4, b5⟩ := div_bd (show 0 ≤ l by omega) (show 1 ≤ s by omega)
      have e1 : l.tdiv s = l / s := Int.tdiv_eq_ediv_of_nonneg (by omega)
      have e2 : l.tmod s = l % s := Int.tmod_eq_emod_of_nonneg (by omega)
      have hs0 : s ≠ 0 := by omega
      have hs1 : s ≠ -1 := by omega
      generalize l / s = q at *
      generalize l % s = r at *
      by_cases h3 : 0 < r
      · rw [if_pos h3]
        have d3 : (r == 0) = false := by simp; omega
        have b6 := b5 h3
        clear h1 h2 h3 b5
        go_enter Tryd.func32, Tryd.ntmps32
        go_wp2
        go_ret
        exact ⟨rfl, rfl⟩
      · rw [if_neg h3]
        obtain rfl : r = 0 := by omega
        clear h1 h2 h3 b5
        go_enter Tryd.func32, Tryd.ntmps32
        go_wp2
        go_ret
        exact ⟨rfl, rfl⟩
/-- A signature's value. -/
def sigV (sz cut len : Int) (v : Value) : Value := .agg #[.int .i64 sz, .int .i64 cut, .int .i64 len, v]
set_option maxHeartbeats 1600000 in
theorem fits_c (w : World) (sz cut len : Int) (v : Value) (hv : v.oneCell' = true) (hl : len ≤ 9223372036854775807) :
    Calls Tryd.prog 52 #[sigV sz cut len v] w fun e w' => e = .returned (.int .i64 (fitsE sz cut len)) ∧ Below w.heap.size w w' := by
  have HC := hide (fun u : World => count_c u len sz hl)
  clear hl
  unfold fitsE sigV
  by_cases h1 : sz < 1
  · rw [if_pos (.inl h1)]
    have d1 : decide (sz < 1) = true := by simpa using h1
    clear h1
    go_enter Tryd.func52, Tryd.ntmps52
    go_wp2
    go_ret
    exact ⟨rfl, below_new _ _⟩
  have d1 : decide (sz < 1) = false := by simpa using h1
  by_cases h2 : 4096 < sz
  · rw [if_pos (.inr (.inl h2))]
    have d2 : decide (4096 < sz) = true := by simpa using h2
    clear h1 h2
    go_enter Tryd.func52, Tryd.ntmps52
    go_wp2
    go_ret
    exact ⟨rfl, below_new _ _⟩
  have d2 : decide (4096 < sz) = false := by simpa using h2
  by_cases h3 : cut < 0
  · rw [if_pos (.inr (.inr (.inl h3)))]
    have d3 : decide (cut < 0) = true := by simpa using h3
    clear h1 h2 h3
    go_enter Tryd.func52, Tryd.ntmps52
    go_wp2
    go_ret
    exact ⟨rfl, below_new _ _⟩
  have d3 : decide (cut < 0) = false := by simpa using h3
  by_cases h4 : 32 < cut
  · rw [if_pos (.inr (.inr (.inr (.inl h4))))]
    have d4 : decide (32 < cut) = true := by simpa using h4
    clear h1 h2 h3 h4
    go_enter Tryd.func52, Tryd.ntmps52
    go_wp2
    go_ret
    exact ⟨rfl, below_new _ _⟩
  have d4 : decide (32 < cut) = false := by simpa using h4
  by_cases h5 : len < 0
  · rw [if_pos (.inr (.inr (.inr (.inr h5))))]
    have d5 : decide (len < 0) = true := by simpa using h5
    clear h1 h2 h3 h4 h5
    go_enter Tryd.func52, Tryd.ntmps52
    go_wp2
    go_ret
    exact ⟨rfl, below_new _ _⟩
  have d5 : decide (len < 0) = false := by simpa using h5
  rw [if_neg (by omega)]
  clear h1 h2 h3 h4 h5
  generalize cntZ len sz = n at *
  by_cases h6 : 4096 < n
  · rw [if_pos h6]
    have d6 : decide (4096 < n) = true := by simpa using h6
    clear h6
    go_enter Tryd.func52, Tryd.ntmps52
    go_wp2_with fail
    refine (HC.out _).mono ?_
    rintro e w1 ⟨rfl, rfl⟩
    go_wp2
    go_ret
    exact ⟨rfl, below_new _ _⟩
  · rw [if_neg h6]
    have d6 : decide (4096 < n) = false := by simpa using h6
    clear h6
    go_enter Tryd.func52, Tryd.ntmps52
    go_wp2_with fail
    refine (HC.out _).mono ?_
    rintro e w1 ⟨rfl, rfl⟩
    go_wp2
    go_ret
    exact ⟨rfl, below_new _ _⟩
end Go.Proofs.YtheambpddpfcfaaDoor.Kb
