/- LockMany's walk. -/
import Derived.Test.YtlhjkacdhfchiaaDoorLr
import Derived.Test.YtlhjkacdhfchiaaDoorEu
namespace Go.Proofs.YtlhjkacdhfchiaaDoor.LockManyW
set_option linter.unusedVariables false
set_option linter.unusedSimpArgs false
set_option maxRecDepth 100000
open Go.ChangeShapes Go.WideShapes Go.ChangeAt Go.RowKit
open Go.Proofs.YtlhjkacdhfchiaaDoor.Wu Go.Proofs.YtlhjkacdhfchiaaDoor.Ps Go.Proofs.YtlhjkacdhfchiaaDoor.Pu Go.Proofs.YtlhjkacdhfchiaaDoor.Px Go.Proofs.YtlhjkacdhfchiaaDoor.Pd Go.Proofs.YtlhjkacdhfchiaaDoor.La Go.Proofs.YtlhjkacdhfchiaaDoor.Lb Go.Proofs.YtlhjkacdhfchiaaDoor.Lg Go.Proofs.YtlhjkacdhfchiaaDoor.Lh Go.Proofs.YtlhjkacdhfchiaaDoor.Li Go.Proofs.YtlhjkacdhfchiaaDoor.Lk Go.Proofs.YtlhjkacdhfchiaaDoor.Lm Go.Proofs.YtlhjkacdhfchiaaDoor.Lo Go.Proofs.YtlhjkacdhfchiaaDoor.Lq Go.Proofs.YtlhjkacdhfchiaaDoor.Lr
open Go.Proofs.YtlhjkacdhfchiaaDoor.Er (Et)
open Go.Proofs.YtlhjkacdhfchiaaDoor.Eu (IsErr number_c RetB)
/-- So many who ask for nothing. -/
def mk (n : Nat) : List Wh := (List.range n).map fun (k : Nat) => ((k : Int), ([] : List (List UInt8)))
theorem mk_len (n : Nat) : (mk n).length = n := by simp [mk]
theorem mk_succ (n : Nat) : mk (n + 1) = mk n ++ [((n : Int), [])] := by simp [mk, List.range_succ]
theorem mk_none (n : Nat) (i : Int) (h : (n : Int) ≤ i) : (mk n).findIdx? (whoIs i) = none := by
  rw [List.findIdx?_eq_none_iff]
  intro x hx
  obtain ⟨k, hk, rfl⟩ := List.mem_map.1 hx
  have := List.mem_range.1 hk
  simp [whoIs]
  omega
theorem ask_in (i : Nat) (h : i < 64) : askF (mk i) (i : Int) [] = .inl (mk (i + 1), true) := by
  unfold askF
  rw [mk_none i i (Int.le_refl _), mk_len, if_neg (by simp), if_neg (by omega), if_neg (by simp), s_nil]
  simp only
  rw [← mk_succ]
  congr 2
  unfold freeL
  have : (mk (i + 1))[i]? = some ((i : Int), []) := by simp [mk]
  rw [this]
  simp [way]
theorem ask_out (i : Nat) (h : 64 ≤ i) : askF (mk 64) (i : Int) [] = .inr 3 := by
  unfold askF
  rw [mk_none 64 i (by omega), mk_len, if_neg (by simp), if_pos rfl]
theorem find7 : (mk 64).findIdx? (whoIs 7) = some 7 := by kernel_rfl
theorem at7 : (mk 64)[7]? = some (7, []) := by kernel_rfl
def mk7 : List Wh := (mk 64).take 7 ++ (mk 64).drop 8
theorem ask100 : askF mk7 100 [[97]] = .inl (mk7 ++ [(100, [[97]])], true) := by kernel_rfl
theorem len100 : (mk7 ++ [((100 : Int), [[(97 : UInt8)]])]).length = 64 := by kernel_rfl
theorem err3 {w : World} {v : Value} {c : Int} (h : ErrV w v c) (hc : c ≠ 90) (h0 : c ≠ 0) : ∃ T x p, v = .iface T x ∧ IsErr w v c p := by
  rcases h with rfl | ⟨i, _, h⟩ | ⟨i, b, rfl, hb⟩
  · exact ⟨_, _, -1, rfl, .inr (.inl ⟨rfl, rfl⟩)⟩
  · exact absurd h hc
  · exact ⟨_, _, i, rfl, .inr (.inr ⟨b, _, _, rfl, hb⟩)⟩
theorem srcNil (w : World) : SrcS w none [] := ⟨0, 0, fun h => absurd h (by simp), fun i p hp => by simp at hp⟩
set_option maxHeartbeats 1600000 in
theorem out_walk (n : Int) (w : World) (hg : n < 0 ∨ 70 < n) :
    Calls Tryd.prog 7 #[.int .i64 n] w fun e w' => e = .returned (.bool true) ∧ Below w.heap.size w w' := by
  have HH := hide (locks_c w)
  by_cases c1 : n < 0
  · have d1 : decide (n < 0) = true := by simpa using c1
    clear hg c1
    go_enter Tryd.func7, Tryd.ntmps7
    go_wp2_with fail
    refine HH.out.mono ?_
    rintro e w1 ⟨rfl, hb⟩
    have HB := hide hb
    clear hb
    go_wp2
    go_ret
    exact ⟨rfl, HB.out⟩
  · have d1 : decide (n < 0) = false := by simpa using c1
    have d2 : decide (70 < n) = true := by simp; omega
    clear hg c1
    go_enter Tryd.func7, Tryd.ntmps7
    go_wp2_with fail
    refine HH.out.mono ?_
    rintro e w1 ⟨rfl, hb⟩
    have HB := hide hb
    clear hb
    go_wp2
    go_ret
    exact ⟨rfl, HB.out⟩
set_option maxHeartbeats 3200000 in
theorem in_walk (n : Nat) (w : World) (hn : n ≤ 70) (he : Et w) :
    Calls Tryd.prog 7 #[.int .i64 (n : Int)] w fun e w' => e = .returned (.bool true) ∧ Below w.heap.size w w' := by
  have HH := hide (locks_c w)
  have HE : Hid (∀ u, Below w.heap.size w u → Et u) := hide (fun u hu => he.below hu (Nat.le_refl _))
  have d1 : decide ((n : Int) < 0) = false := by simp
  have d2 : decide ((70 : Int) < (n : Int)) = false := by simp; omega
  have d2' : decide (70 < n) = false := by simp; omega
  clear he
  go_enter Tryd.func7, Tryd.ntmps7
  go_wp2_with fail
  refine HH.out.mono ?_
  rintro e w1 ⟨rfl, hb⟩
  have HN := hide (new_w hb)
  clear hb HH
  go_wp2_with fail
  refine HN.out.mono ?_
  rintro e w2 ⟨rfl, h2⟩
  have H2 : Hid (Lw w w1.heap.size w1.heap.size (mk 0) w2) := hide h2
  clear h2 HN d1 d2 d2'
  generalize w1.heap.size = P at *
  go_wp2_with fail
  go_loopw [21] (fun j wr => ∃ i : Nat, j = .int .i64 (i : Int) ∧ i ≤ n ∧ Lw w P P (mk (min i 64)) wr) (fun j _ => n - (intOf j).toNat)
  case atStart => exact ⟨0, rfl, Nat.zero_le _, H2.out⟩
  case round =>
    clear H2
    obtain ⟨i, rfl, hi, hL⟩ := hrel
    have HL := hide hL
    clear hL
    by_cases hlt : i < n
    · have d1 : decide ((i : Int) < (n : Int)) = true := by simpa using hlt
      by_cases h64 : i < 64
      · rw [Nat.min_eq_left (by omega)] at HL
        have d3 : decide ((i : Int) < 64) = true := by simp; omega
        have d3' : decide (i < 64) = true := by simpa using h64
        have HA := hide (ask_ok HL.out (i : Int) none 0 0 [] (srcNil _) rfl (Nat.le_refl _) (by omega) (by simp) (ask_in i h64))
        rw [← Nat.min_eq_left (show i + 1 ≤ 64 by omega)] at HA
        clear HL
        go_wp2_with fail
        refine HA.out.mono ?_
        rintro e w3 ⟨rfl, h3⟩
        have H3 := hide h3
        clear h3 HA
        go_wp2
        go_roundw
        case rel => exact ⟨i + 1, by go_num, by omega, H3.out⟩
        case measure => simp [intOf]; omega
      · rw [Nat.min_eq_right (by omega)] at HL
        have d3 : decide ((i : Int) < 64) = false := by simp; omega
        have d3' : decide (i < 64) = false := by simpa using h64
        have HA := hide (ask_no HL.out (i : Int) none 0 0 [] (srcNil _) rfl (Nat.le_refl _) (by omega) (by simp) (ask_out i (by omega)))
        clear HL
        go_wp2_with fail
        refine HA.out.mono ?_
        rintro e w3 ⟨v, rfl, hv, h3⟩
        obtain ⟨T, x, p, rfl, hE⟩ := err3 hv (by omega) (by omega)
        have H3 := hide h3
        have HC := hide (number_c _ 3 p w3 hE (HE.out w3 h3.below))
        clear h3 HA hv hE
        go_wp2_with fail
        refine HC.out.mono ?_
        rintro e w4 ⟨rfl, hb⟩
        have H4 := hide (H3.out.up hb)
        rw [← Nat.min_eq_right (show 64 ≤ i + 1 by omega)] at H4
        clear hb H3 HC
        go_wp2
        go_roundw
        case rel => exact ⟨i + 1, by go_num, by omega, H4.out⟩
        case measure => simp [intOf]; omega
    · obtain rfl : i = n := by omega
      have d1 : decide ((i : Int) < (i : Int)) = false := by simp
      by_cases h64 : i ≤ 64
      · rw [Nat.min_eq_left h64] at HL
        have d3 : decide ((i : Int) ≤ 64) = true := by simp; omega
        have d3' : decide (i ≤ 64) = true := by simpa using h64
        have HC := hide (len_c HL.out.lk)
        rw [mk_len] at HC
        go_wp2_with fail
        refine HC.out.mono ?_
        rintro e w3 ⟨rfl, rfl⟩
        have HB := hide HL.out.below
        clear HL HC
        go_wp2
        go_ret
        exact ⟨by simp, HB.out⟩
      · rw [Nat.min_eq_right (by omega)] at HL
        have d3 : decide ((i : Int) ≤ 64) = false := by simp; omega
        have d3' : decide (i ≤ 64) = false := by simp; omega
        have HRl := hide (rel_ok HL.out 7 find7 at7)
        go_wp2_with fail
        refine HRl.out.mono ?_
        rintro e w3 ⟨v, rfl, ho, h3⟩
        obtain ⟨av, cv, gv, rfl, -, -, -, -⟩ := ho.form
        have H3 : Hid (Lw w P P mk7 w3) := hide h3
        clear h3 ho HRl HL
        go_wp2_with fail
        have H4 := hide (H3.out.up (below_new w3 (.cells #[.string ⟨#[97]⟩] 9)))
        have HX : Hid (SrcS (w3.alloc (.cells #[.string ⟨#[97]⟩] 9)) (some ⟨w3.heap.size, 0, none⟩) [[97]]) := hide (src1 (heap_last w3 (.cells #[.string (bs [97])] 9)))
        generalize w3.alloc (.cells #[.string ⟨#[97]⟩] 9) = w4 at *
        generalize w3.heap.size = X2 at *
        refine (ask_ok H4.out 100 _ 1 1 _ HX.out rfl (Nat.le_refl _) (by omega) (by simp) ask100).mono ?_
        rintro e w5 ⟨rfl, h5⟩
        have H5 := hide h5
        have HC := hide (len_c h5.lk)
        rw [len100] at HC
        clear h5 H4 HX H3
        go_wp2_with fail
        refine HC.out.mono ?_
        rintro e w6 ⟨rfl, rfl⟩
        have HB := hide H5.out.below
        clear H5 HC
        go_wp2
        go_ret
        exact ⟨rfl, HB.out⟩
theorem walk_any (n : Int) (w : World) (he : Et w) : Calls Tryd.prog 7 #[.int .i64 n] w fun e w' => e = .returned (.bool true) ∧ Below w.heap.size w w' := by
  by_cases hg : n < 0 ∨ 70 < n
  · exact out_walk n w hg
  · obtain ⟨a, rfl⟩ := Int.eq_ofNat_of_zero_le (show 0 ≤ n by omega)
    exact in_walk a w (by omega) he
end Go.Proofs.YtlhjkacdhfchiaaDoor.LockManyW
