/- SlotApart's walk. -/
import Derived.Test.YtlhjkacdhfchiaaXe
namespace Go.Proofs.Ytlhjkacdhfchiaa.SlotApartW
set_option linter.unusedVariables false
set_option linter.unusedSimpArgs false
set_option maxRecDepth 100000
open Go.ChangeShapes Go.WideShapes Go.ChangeAt Go.RowKit
open Go.Proofs.Ytlhjkacdhfchiaa.Wu Go.Proofs.Ytlhjkacdhfchiaa.Rk Go.Proofs.Ytlhjkacdhfchiaa.Km Go.Proofs.Ytlhjkacdhfchiaa.Xa Go.Proofs.Ytlhjkacdhfchiaa.Xb Go.Proofs.Ytlhjkacdhfchiaa.Xc Go.Proofs.Ytlhjkacdhfchiaa.Xd Go.Proofs.Ytlhjkacdhfchiaa.Xm Go.Proofs.Ytlhjkacdhfchiaa.Xe
def na : ByteArray := ⟨#[97]⟩
def nb : ByteArray := ⟨#[98]⟩
def nc : ByteArray := ⟨#[99]⟩
theorem apart : isIn na (0, nb) = false ∧ isIn nb (0, na) = false ∧ isIn nc (0, na) = false ∧ isIn nc (0, nb) = false := by
  refine ⟨?_, ?_, ?_, ?_⟩ <;> (show (ByteArray.toList _ == ByteArray.toList _) = false; decide +kernel)
theorem wfi {x : Int} (h : -9223372036854775808 ≤ x ∧ x ≤ 9223372036854775807) : (Lit.int .i64 x).wf = true := by
  have h1 : IntKind.i64.min = -9223372036854775808 := by decide
  have h2 : IntKind.i64.max = 9223372036854775807 := by decide
  simp [Lit.wf, h1, h2]
  omega
set_option maxHeartbeats 1600000 in
theorem out_walk (n s : Int) (w : World) (hg : n < 0 ∨ 30 < n ∨ s < 0 ∨ 30 < s) :
    Calls Try.prog 5 #[.int .i64 n, .int .i64 s] w fun e w' => e = .returned (.bool true) ∧ Below w.heap.size w w' := by
  have HH := hide (enters_c w)
  by_cases c1 : n < 0
  · have d1 : decide (n < 0) = true := by simpa using c1
    clear hg c1
    go_enter Try.func5, Try.ntmps5
    go_wp2_with fail
    refine HH.out.mono ?_
    rintro e w1 ⟨rfl, hb⟩
    have HB := hide hb
    clear hb
    go_wp2
    go_ret
    exact ⟨rfl, HB.out⟩
  have d1 : decide (n < 0) = false := by simpa using c1
  by_cases c2 : 30 < n
  · have d2 : decide (30 < n) = true := by simpa using c2
    clear hg c1 c2
    go_enter Try.func5, Try.ntmps5
    go_wp2_with fail
    refine HH.out.mono ?_
    rintro e w1 ⟨rfl, hb⟩
    have HB := hide hb
    clear hb
    go_wp2
    go_ret
    exact ⟨rfl, HB.out⟩
  have d2 : decide (30 < n) = false := by simpa using c2
  by_cases c3 : s < 0
  · have d3 : decide (s < 0) = true := by simpa using c3
    clear hg c1 c2 c3
    go_enter Try.func5, Try.ntmps5
    go_wp2_with fail
    refine HH.out.mono ?_
    rintro e w1 ⟨rfl, hb⟩
    have HB := hide hb
    clear hb
    go_wp2
    go_ret
    exact ⟨rfl, HB.out⟩
  have d3 : decide (s < 0) = false := by simpa using c3
  have d4 : decide (30 < s) = true := by
    have : 30 < s := by omega
    simpa using this
  clear hg c1 c2 c3
  go_enter Try.func5, Try.ntmps5
  go_wp2_with fail
  refine HH.out.mono ?_
  rintro e w1 ⟨rfl, hb⟩
  have HB := hide hb
  clear hb
  go_wp2
  go_ret
  exact ⟨rfl, HB.out⟩
set_option maxHeartbeats 3200000 in
theorem in_walk (n s : Nat) (w : World) (hn : n ≤ 30) (hs : s ≤ 30) :
    Calls Try.prog 5 #[.int .i64 (n : Int), .int .i64 (s : Int)] w fun e w' => e = .returned (.bool true) ∧ Below w.heap.size w w' := by
  have HH := hide (enters_c w)
  have d1 : decide ((n : Int) < 0) = false := by simp
  have d2 : decide ((30 : Int) < (n : Int)) = false := by simp; omega
  have d2' : decide (30 < n) = false := by simp; omega
  have d3 : decide ((s : Int) < 0) = false := by simp
  have d4 : decide ((30 : Int) < (s : Int)) = false := by simp; omega
  have d4' : decide (30 < s) = false := by simp; omega
  go_enter Try.func5, Try.ntmps5
  go_wp2_with fail
  refine HH.out.mono ?_
  rintro e w1 ⟨rfl, hb⟩
  have HB := hide hb
  clear hb HH
  go_wp2_with fail
  refine (new_c w1).mono ?_
  rintro e w2 ⟨rfl, hs2, hb2⟩
  have H2 := hide (show Lw w (w1.heap.size + 1) w1.heap.size [] w2 from ⟨hs2, keepB hb2 (Nat.le_refl _) HB.out, HB.out.size⟩)
  have HT : Hid (Two na nb nc s 0 []) := hide ⟨fun u hu => (by cases hu), by simp [cnt], by simp [cnt], by simp [cnt], by simp⟩
  clear hs2 hb2 HB
  generalize w1.heap.size + 1 = P at *
  generalize w1.heap.size = M at *
  clear d1 d2 d2' d3 d4 d4'
  go_wp2_with fail
  go_loopw [26] (fun j wr => ∃ (i : Nat) (L : List Sl), j = .int .i64 (i : Int) ∧ i ≤ n ∧ Two na nb nc s i L ∧ Lw w P M L wr) (fun j _ => n - (intOf j).toNat)
  case atStart => exact ⟨0, [], rfl, Nat.zero_le _, HT.out, H2.out⟩
  case round =>
    clear HT H2
    obtain ⟨i, L, rfl, hi, hT, hL⟩ := hrel
    have HT := hide hT
    have HL := hide hL
    have hlen := hT.len
    by_cases hlt : i < n
    · have d1 : decide ((i : Int) < (n : Int)) = true := by simpa using hlt
      obtain ⟨L1, L2, t1, t2, t3, k1, k2, t4⟩ := hT.step (by omega) apart
      have HT4 := hide t4
      have HC1 := hide (enter_c P M L (i : Int) na ⟨#[]⟩ false (s : Int) 0 (.slice none 0 0) wr hL.slots (wfi (by omega)) (by unfold maxLen; omega))
      have HC2 := hide (fun (u : World) (hu : SlW u P M L1) => enter_c P M L1 (1000 + (i : Int)) nb ⟨#[]⟩ false 100 0 (.slice none 0 0) u hu (wfi (by omega)) (by unfold maxLen; omega))
      have HC3 := hide (fun (u : World) (hu : SlW u P M L2) => enter_c P M L2 (2000 + (i : Int)) nc ⟨#[]⟩ false 0 0 (.slice none 0 0) u hu (wfi (by omega)) (by unfold maxLen; omega))
      rw [t1] at HC1
      rw [t2] at HC2
      rw [t3] at HC3
      have hw1 : IntKind.i64.wrap (1000 + (i : Int)) = 1000 + (i : Int) := IntWalk.i64_in _ (by omega)
      have hw2 : IntKind.i64.wrap (2000 + (i : Int)) = 2000 + (i : Int) := IntWalk.i64_in _ (by omega)
      clear hT hL hlen t1 t2 t3 t4 HT k1 k2
      by_cases his : i < s
      · have d2 : decide ((i : Int) < (s : Int)) = true := by simpa using his
        have d2' : decide (i < s) = true := by simpa using his
        rw [if_pos his] at HC1
        clear his
        go_wp2_with fail
        refine HC1.out.mono ?_
        rintro e w3 ⟨rfl, hs, hg⟩
        have H3 := hide (HL.out.turn hs hg)
        clear hs hg HC1 HL
        simp only at H3
        go_wp2_with fail
        refine (HC2.out w3 H3.out.slots).mono ?_
        rintro e w4 ⟨rfl, hs, hg⟩
        have H4 := hide (H3.out.turn hs hg)
        clear hs hg HC2 H3
        simp only at H4
        go_wp2_with fail
        refine (HC3.out w4 H4.out.slots).mono ?_
        rintro e w5 ⟨rfl, hs, hg⟩
        have H5 := hide (H4.out.turn hs hg)
        clear hs hg HC3 H4
        simp only at H5
        go_wp2
        go_roundw
        case rel => exact ⟨i + 1, L2, by go_num, by omega, HT4.out, H5.out⟩
        case measure => simp [intOf]; omega
      · have d2 : decide ((i : Int) < (s : Int)) = false := by simpa using his
        have d2' : decide (i < s) = false := by simpa using his
        rw [if_neg his] at HC1
        clear his
        go_wp2_with fail
        refine HC1.out.mono ?_
        rintro e w3 ⟨rfl, hs, hg⟩
        have H3 := hide (HL.out.turn hs hg)
        clear hs hg HC1 HL
        simp only at H3
        go_wp2_with fail
        refine (HC2.out w3 H3.out.slots).mono ?_
        rintro e w4 ⟨rfl, hs, hg⟩
        have H4 := hide (H3.out.turn hs hg)
        clear hs hg HC2 H3
        simp only at H4
        go_wp2_with fail
        refine (HC3.out w4 H4.out.slots).mono ?_
        rintro e w5 ⟨rfl, hs, hg⟩
        have H5 := hide (H4.out.turn hs hg)
        clear hs hg HC3 H4
        simp only at H5
        go_wp2
        go_roundw
        case rel => exact ⟨i + 1, L2, by go_num, by omega, HT4.out, H5.out⟩
        case measure => simp [intOf]; omega
    · obtain rfl : i = n := by omega
      have d1 : decide ((i : Int) < (i : Int)) = false := by simp
      have HC1 := hide (fun (u : World) (hu : SlW u P M L) => count_c P M L na u hu)
      have HC2 := hide (fun (u : World) (hu : SlW u P M L) => count_c P M L nb u hu)
      have HC3 := hide (fun (u : World) (hu : SlW u P M L) => count_c P M L nc u hu)
      have HC4 := hide (fun (u : World) (hu : SlW u P M L) => len_c P M L u hu)
      rw [hT.ca] at HC1
      rw [hT.cb] at HC2
      rw [hT.cc] at HC3
      rw [hT.len] at HC4
      clear hT hL hlen HT
      by_cases hsi : s < i
      · rw [Nat.min_eq_right (by omega)] at HC1 HC4
        have d5 : decide ((s : Int) < (i : Int)) = true := by simpa using hsi
        have d5' : decide (s < i) = true := by simpa using hsi
        go_wp2_with fail
        refine (HC1.out wr HL.out.slots).mono ?_
        rintro e w3 ⟨rfl, hb⟩
        have H3 := hide (HL.out.up hb)
        clear hb HC1 HL
        go_wp2_with fail
        refine (HC2.out w3 H3.out.slots).mono ?_
        rintro e w4 ⟨rfl, hb⟩
        have H4 := hide (H3.out.up hb)
        clear hb HC2 H3
        go_wp2_with fail
        refine (HC3.out w4 H4.out.slots).mono ?_
        rintro e w5 ⟨rfl, hb⟩
        have H5 := hide (H4.out.up hb)
        clear hb HC3 H4
        go_wp2_with fail
        refine (HC4.out w5 H5.out.slots).mono ?_
        rintro e w6 ⟨rfl, rfl⟩
        have HB := hide H5.out.below
        clear H5 HC4
        go_wp2
        go_ret
        exact ⟨by simp, HB.out⟩
      · rw [Nat.min_eq_left (by omega)] at HC1 HC4
        have d5 : decide ((s : Int) < (i : Int)) = false := by simpa using hsi
        have d5' : decide (s < i) = false := by simpa using hsi
        go_wp2_with fail
        refine (HC1.out wr HL.out.slots).mono ?_
        rintro e w3 ⟨rfl, hb⟩
        have H3 := hide (HL.out.up hb)
        clear hb HC1 HL
        go_wp2_with fail
        refine (HC2.out w3 H3.out.slots).mono ?_
        rintro e w4 ⟨rfl, hb⟩
        have H4 := hide (H3.out.up hb)
        clear hb HC2 H3
        go_wp2_with fail
        refine (HC3.out w4 H4.out.slots).mono ?_
        rintro e w5 ⟨rfl, hb⟩
        have H5 := hide (H4.out.up hb)
        clear hb HC3 H4
        go_wp2_with fail
        refine (HC4.out w5 H5.out.slots).mono ?_
        rintro e w6 ⟨rfl, rfl⟩
        have HB := hide H5.out.below
        clear H5 HC4
        go_wp2
        go_ret
        exact ⟨by simp, HB.out⟩
theorem walk_any (n s : Int) (w : World) : Calls Try.prog 5 #[.int .i64 n, .int .i64 s] w fun e w' => e = .returned (.bool true) ∧ Below w.heap.size w w' := by
  by_cases hg : n < 0 ∨ 30 < n ∨ s < 0 ∨ 30 < s
  · exact out_walk n s w hg
  · obtain ⟨a, rfl⟩ := Int.eq_ofNat_of_zero_le (show 0 ≤ n by omega)
    obtain ⟨b, rfl⟩ := Int.eq_ofNat_of_zero_le (show 0 ≤ s by omega)
    exact in_walk a b w (by omega) (by omega)
end Go.Proofs.Ytlhjkacdhfchiaa.SlotApartW
