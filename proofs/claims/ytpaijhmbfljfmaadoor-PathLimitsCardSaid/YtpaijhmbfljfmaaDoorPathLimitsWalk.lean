/- PathLimits' walk. -/
import Derived.Test.YtpaijhmbfljfmaaDoorPf
import Derived.Test.YtpaijhmbfljfmaaDoorPg
import Derived.Test.YtpaijhmbfljfmaaDoorPh
import Derived.Test.YtpaijhmbfljfmaaDoorPr
namespace Go.Proofs.YtpaijhmbfljfmaaDoor.PathLimitsW
set_option linter.unusedVariables false
set_option linter.unusedSimpArgs false
set_option maxRecDepth 100000
open Go.ChangeShapes Go.WideShapes Go.RowKit
open Go.Proofs.YtpaijhmbfljfmaaDoor.Wu Go.Proofs.YtpaijhmbfljfmaaDoor.Pm Go.Proofs.YtpaijhmbfljfmaaDoor.Pc Go.Proofs.YtpaijhmbfljfmaaDoor.Pl Go.Proofs.YtpaijhmbfljfmaaDoor.Pd Go.Proofs.YtpaijhmbfljfmaaDoor.Pe Go.Proofs.YtpaijhmbfljfmaaDoor.Er Go.Proofs.YtpaijhmbfljfmaaDoor.Eu Go.Proofs.YtpaijhmbfljfmaaDoor.Ei Go.Proofs.YtpaijhmbfljfmaaDoor.Pf Go.Proofs.YtpaijhmbfljfmaaDoor.Pg Go.Proofs.YtpaijhmbfljfmaaDoor.Ph
theorem repeatL_one (z : Nat) : Lib.repeatL [97] z = List.replicate z 97 := by
  induction z with
  | zero => rfl
  | succ z ih => show [97] ++ Lib.repeatL [97] z = _; rw [ih, List.replicate_succ]; rfl
def lim (d z : Nat) : Option Nat := if 64 < d * (z + 1) - 1 then some 64 else if 16 < z then some 0 else if 6 < d then some (6 * (z + 1)) else none
theorem lim_all : ∀ d, d < 9 → ∀ z, z < 19 → (d = 0 ∨ z = 0 ∨ check (rep (List.replicate z 97) d) = lim d z) := by decide +kernel
theorem lim_is (d z : Nat) (h1 : 1 ≤ d) (h2 : d ≤ 8) (h3 : 1 ≤ z) (h4 : z ≤ 18) : check (rep (List.replicate z 97) d) = lim d z := by
  rcases lim_all d (by omega) z (by omega) with h | h | h
  · omega
  · omega
  · exact h
set_option maxHeartbeats 1600000 in
theorem out_walk (d z : Int) (w : World) (he : Et w) (h : d < 1 ∨ 8 < d ∨ z < 1 ∨ 18 < z) : Calls Tryd.prog 13 #[.int .i64 d, .int .i64 z] w (RetT w) := by
  have HC := hide (checks_c w he)
  clear he
  have hc : (d < 1) ∨ (¬ d < 1 ∧ 8 < d) ∨ (¬ d < 1 ∧ ¬ 8 < d ∧ z < 1) ∨ (¬ d < 1 ∧ ¬ 8 < d ∧ ¬ z < 1 ∧ 18 < z) := by omega
  clear h
  rcases hc with h1 | ⟨h1, h2⟩ | ⟨h1, h2, h3⟩ | ⟨h1, h2, h3, h4⟩
  all_goals
    go_enter Tryd.func13, Tryd.ntmps13
    go_wp2_with fail
    refine HC.out.mono ?_
    rintro e w1 ⟨rfl, hb1⟩
    have HB1 := hide hb1
    clear hb1 HC
    go_wp2
    go_ret
    exact ⟨rfl, HB1.out⟩
set_option maxHeartbeats 3200000 in
theorem walk (d z : Nat) (w : World) (he : Et w) (h1 : 1 ≤ d) (h2 : d ≤ 8) (h3 : 1 ≤ z) (h4 : z ≤ 18) : Calls Tryd.prog 13 #[.int .i64 (d : Int), .int .i64 (z : Int)] w (RetT w) := by
  have HE : Hid (∀ u, Below w.heap.size w u → Et u) := hide (fun u hu => he.below hu (Nat.le_refl _))
  have HC := hide (checks_c w he)
  have HL := hide (lim_is d z h1 h2 h3 h4)
  obtain ⟨g, hg⟩ : ∃ g : List UInt8, g = List.replicate z 97 := ⟨_, rfl⟩
  have hgl : g.length = z := by rw [hg, List.length_replicate]
  have HR : Hid (∀ u : World, Calls Tryd.prog 43 #[.string ⟨#[97]⟩, .int .i64 (z : Int)] u fun e w' => e = .returned (.string (bs g)) ∧ Below u.heap.size u w') := hide (fun u => by
    have h := Pr.repeat_c ⟨#[97]⟩ z u (by omega) (by show 1 * z ≤ _; omega)
    have e : (⟨(Lib.repeatL (⟨#[97]⟩ : ByteArray).data.toList z).toArray⟩ : ByteArray) = bs g := by rw [hg, ← repeatL_one z]; rfl
    rw [e] at h
    exact h)
  have HRl := hide (rep_length g)
  have HRs := hide (rep_step g)
  rw [← hg] at HL
  clear he hg
  have d1 : decide ((d : Int) < 1) = false := by simp; omega
  have d2 : decide ((8 : Int) < (d : Int)) = false := by simp; omega
  have d3 : decide ((z : Int) < 1) = false := by simp; omega
  have d4 : decide ((18 : Int) < (z : Int)) = false := by simp; omega
  go_enter Tryd.func13, Tryd.ntmps13
  go_wp2_with fail
  refine HC.out.mono ?_
  rintro e w1 ⟨rfl, hb1⟩
  have HB1 := hide hb1
  clear hb1 HC
  go_wp2_with fail
  clear d1 d2 d3 d4
  go_loopw [25, 5] (fun vi vs wr => ∃ i : Nat, vi = .int .i64 (i : Int) ∧ i ≤ d ∧ vs = .string (bs (rep g i)) ∧ Below w.heap.size w wr) (fun vi _ _ => d - (intOf vi).toNat)
  case atStart => exact ⟨0, rfl, Nat.zero_le _, rfl, HB1.out⟩
  case round =>
    obtain ⟨i, rfl, hi, rfl, hb⟩ := hrel
    have HB := hide hb
    clear hb HB1
    have hril : (rep g i).length ≤ 200 := by
      by_cases h0 : 0 < i
      · have h5 := HRl.out i h0
        rw [hgl] at h5
        have : i * (z + 1) ≤ 8 * 19 := Nat.mul_le_mul (by omega) (by omega)
        omega
      · have : i = 0 := by omega
        subst this
        simp [rep]
    by_cases hlt : i < d
    · by_cases h0 : i = 0
      · subst h0
        have A1 : ∀ u : World, Sem.run Tryd.prog (Op.stringOp .add (bs (rep g 0)) (bs g)) u = .ok (.string (bs (rep g 1))) u := add_bs [] g (by simp; omega)
        go_wp2_with fail
        refine (HR.out wr).mono ?_
        rintro e w2 ⟨rfl, hb2⟩
        have HB2 := hide (keepB hb2 (Nat.le_refl _) HB.out)
        clear hb2
        go_wp2
        go_roundw
        case rel => exact ⟨1, by go_num, by omega, rfl, HB2.out⟩
        case measure => simp [intOf]; omega
      · have hs := HRs.out i (by omega)
        have A1 := add_slash (rep g i) (by omega)
        have A2 : ∀ u : World, Sem.run Tryd.prog (Op.stringOp .add (bs (rep g i ++ [47])) (bs g)) u = .ok (.string (bs (rep g (i + 1)))) u := fun u => by
          have := add_bs (rep g i ++ [47]) g (by simp; omega) u
          rw [this, hs, List.append_assoc]; rfl
        have hi0 : 0 < i := by omega
        clear hs h0
        go_wp2_with fail
        refine (HR.out wr).mono ?_
        rintro e w2 ⟨rfl, hb2⟩
        have HB2 := hide (keepB hb2 (Nat.le_refl _) HB.out)
        clear hb2
        go_wp2
        go_roundw
        case rel => exact ⟨i + 1, by go_num, by omega, rfl, HB2.out⟩
        case measure => simp [intOf]; omega
    · have hid : i = d := by omega
      subst hid
      have H5 := hide (check_c (rep g i) wr (by omega))
      have hl := HRl.out i (by omega)
      rw [hgl] at hl
      rw [HL.out] at H5
      have hsz := bs_size (rep g i)
      clear HL HRl HRs HR
      unfold lim at H5
      rw [← hl, Nat.add_sub_cancel] at H5
      clear hl
      generalize (rep g i).length = n at *
      generalize bs (rep g i) = B at *
      by_cases c1 : 64 < n
      · rw [if_pos c1] at H5
        go_wp2_with fail
        refine H5.out.mono ?_
        intro e w2 hc
        obtain ⟨b, rfl, hb, hb2⟩ := Chk.some hc
        have HB2 := hide (keepB hb2 (Nat.le_refl _) HB.out)
        have Hb := hide hb
        clear hc hb2 hb H5
        go_wp2_with fail
        refine (place_c _ 90 _ w2 (.inr (.inr ⟨b, _, _, rfl, Hb.out⟩)) (HE.out w2 HB2.out)).mono ?_
        rintro e w5 ⟨rfl, hb5⟩
        have HB5 := hide (keepB hb5 (Nat.le_refl _) HB2.out)
        clear hb5
        go_wp2
        go_ret
        exact ⟨rfl, HB5.out⟩
      rw [if_neg c1] at H5
      by_cases c2 : 16 < z
      · rw [if_pos c2] at H5
        go_wp2_with fail
        refine H5.out.mono ?_
        intro e w2 hc
        obtain ⟨b, rfl, hb, hb2⟩ := Chk.some hc
        have HB2 := hide (keepB hb2 (Nat.le_refl _) HB.out)
        have Hb := hide hb
        clear hc hb2 hb H5
        go_wp2_with fail
        refine (place_c _ 90 _ w2 (.inr (.inr ⟨b, _, _, rfl, Hb.out⟩)) (HE.out w2 HB2.out)).mono ?_
        rintro e w5 ⟨rfl, hb5⟩
        have HB5 := hide (keepB hb5 (Nat.le_refl _) HB2.out)
        have Hb5 := hide (below_blk hb5 (heap_lt Hb.out) Hb.out)
        clear hb5
        go_wp2_with fail
        refine (is_FE b _ 90 90 true rfl _ _ w5 Hb5.out).mono ?_
        rintro e w6 ⟨rfl, rfl⟩
        go_wp2
        go_ret
        exact ⟨rfl, HB5.out⟩
      rw [if_neg c2] at H5
      by_cases c3 : 6 < i
      · rw [if_pos c3] at H5
        have hm : ((6 * (z + 1) : Nat) : Int) = 6 * ((z : Int) + 1) := by omega
        go_wp2_with fail
        refine H5.out.mono ?_
        intro e w2 hc
        obtain ⟨b, rfl, hb, hb2⟩ := Chk.some hc
        rw [hm] at hb
        have HB2 := hide (keepB hb2 (Nat.le_refl _) HB.out)
        have Hb := hide hb
        clear hc hb2 hb H5 hm
        go_wp2_with fail
        refine (place_c _ 90 _ w2 (.inr (.inr ⟨b, _, _, rfl, Hb.out⟩)) (HE.out w2 HB2.out)).mono ?_
        rintro e w5 ⟨rfl, hb5⟩
        have HB5 := hide (keepB hb5 (Nat.le_refl _) HB2.out)
        clear hb5
        go_wp2
        go_ret
        exact ⟨rfl, HB5.out⟩
      · rw [if_neg c3] at H5
        go_wp2_with fail
        refine H5.out.mono ?_
        intro e w2 hc
        obtain ⟨rfl, hb2⟩ := Chk.none hc
        have HB2 := hide (keepB hb2 (Nat.le_refl _) HB.out)
        clear hc hb2 H5
        go_wp2
        go_ret
        exact ⟨rfl, HB2.out⟩
end Go.Proofs.YtpaijhmbfljfmaaDoor.PathLimitsW
