/- CodeSizes' walk. -/
import Derived.Test.YtnjkjljalinibabCl
namespace Go.Proofs.Ytnjkjljalinibab.CodeSizesW
set_option linter.unusedVariables false
set_option linter.unusedSimpArgs false
open Go.ChangeShapes Go.WideShapes Go.ChangeAt Go.RowKit
open Go.Proofs.Ytnjkjljalinibab.Wu Go.Proofs.Ytnjkjljalinibab.Sm Go.Proofs.Ytnjkjljalinibab.Sh Go.Proofs.Ytnjkjljalinibab.Ba Go.Proofs.Ytnjkjljalinibab.Bp Go.Proofs.Ytnjkjljalinibab.Bq Go.Proofs.Ytnjkjljalinibab.Cm Go.Proofs.Ytnjkjljalinibab.Cn Go.Proofs.Ytnjkjljalinibab.Cr Go.Proofs.Ytnjkjljalinibab.Cs Go.Proofs.Ytnjkjljalinibab.Rk Go.Proofs.Ytnjkjljalinibab.Ct Go.Proofs.Ytnjkjljalinibab.Bs Go.Proofs.Ytnjkjljalinibab.Cl
attribute [local go_sem] kUpon_value kUpon_skip kUpon_enter
theorem strN_inj {A B : List Nat} (hA : All8 A) (hB : All8 B) (h : (strN A).toList = (strN B).toList) : A = B := by
  have e : ∀ L : List Nat, (strN L).toList = L.map fun x => UInt8.ofNat x := by
    intro L
    unfold strN
    rw [ByteArray.toList_eq, strOfNums_data, List.map_map]
    apply List.map_congr_left
    intro x _
    simp
  rw [e, e] at h
  have back : ∀ L : List Nat, All8 L → (L.map fun x => UInt8.ofNat x).map (fun b => b.toNat) = L := by
    intro L hL
    rw [List.map_map]
    conv => rhs; rw [← List.map_id L]
    apply List.map_congr_left
    intro x hx
    have := hL x hx
    simp only [Function.comp, id, UInt8.toNat_ofNat']
    omega
  rw [← back A hA, ← back B hB, h]
def Post (w : World) (e : Ending) (w' : World) : Prop := e = .returned (.bool true) ∧ Below w.heap.size w w'
theorem out_walk (a b : Int) (w : World) (h : a < 0 ∨ b < a ∨ 1099511627776 < b) :
    Calls Try.prog 3 #[.int .i64 a, .int .i64 b] w (Post w) := by
  have HC := hide (reads_c w)
  go_enter Try.func3, Try.ntmps3
  go_wp2_with fail
  refine HC.out.mono ?_
  rintro e w1 ⟨rfl, hb⟩
  have HB := hide hb
  clear hb HC
  by_cases h1 : a < 0
  · have d1 : decide (a < 0) = true := by simp [h1]
    go_wp2
    go_ret
    exact ⟨rfl, HB.out⟩
  · have d1 : decide (a < 0) = false := by simp; omega
    by_cases h2 : b < a
    · have d2 : decide (b < a) = true := by simp [h2]
      go_wp2
      go_ret
      exact ⟨rfl, HB.out⟩
    · have d2 : decide (b < a) = false := by simp; omega
      have d3 : decide (1099511627776 < b) = true := by simp; omega
      go_wp2
      go_ret
      exact ⟨rfl, HB.out⟩
set_option maxHeartbeats 3200000 in
theorem walk (a b : Nat) (w : World) (hab : a ≤ b) (hb : b ≤ 1099511627776) :
    Calls Try.prog 3 #[.int .i64 (a : Int), .int .i64 (b : Int)] w (Post w) := by
  have HC := hide (reads_c w)
  have d1 : decide ((a : Int) < 0) = false := by simp
  have d2 : decide ((b : Int) < (a : Int)) = false := by simp; omega
  have d3 : decide (1099511627776 < (b : Int)) = false := by simp; omega
  have d4 : ¬ ((a : Int) < 0) := by omega
  have d5 : ¬ ((b : Int) < (a : Int)) := by omega
  have d6 : ¬ (1099511627776 < (b : Int)) := by omega
  go_enter Try.func3, Try.ntmps3
  go_wp2_with fail
  refine HC.out.mono ?_
  rintro e w1 ⟨rfl, hB1⟩
  have HB1 := hide hB1
  clear hB1 HC
  have d7 : decide (b < a) = false := by simp; omega
  have hN1 : w.heap.size ≤ w1.heap.size := HB1.out.size
  go_wp2_with fail
  refine (num_c (.slice none 0 0) w.heap.size [] a w1 (Or.inl ⟨rfl, rfl⟩) hN1 (by omega) (by simp)).mono ?_
  rintro e w2 ⟨v, rfl, hbf, hB⟩
  have HB2 := hide (HB1.out.trans hB)
  have hN2 : w.heap.size ≤ w2.heap.size := HB2.out.size
  have HX2 := hide hbf
  clear hB hbf HB1
  go_wp2_with fail
  refine (num_c (.slice none 0 0) w2.heap.size [] b w2 (Or.inl ⟨rfl, rfl⟩) (Nat.le_refl _) (by omega) (by simp)).mono ?_
  rintro e w3 ⟨v', rfl, hbf, hB⟩
  have HB3 := hide (HB2.out.trans (hB.mono hN2))
  have hxf := (HX2.out.up hB).form
  have hyf := hbf.form
  simp only [List.nil_append] at hxf hyf
  clear HB2 HX2 hB hbf
  obtain ⟨xa, xc, rfl, hxs, hxl, hxm, -⟩ := hxf
  obtain ⟨ya, yc, rfl, hys, hyl, hym, -⟩ := hyf
  have HVX := hide (conv_src (cap := xc) hxs)
  have HVY := hide (conv_src (cap := yc) hys)
  obtain ⟨xb, xo, hxa, hxcell⟩ := hxs.2.2
  obtain rfl := hxa (numL_pos a)
  have HXC := hide hxcell
  clear hxs hys hxcell
  have h6 := numL_six a (by omega)
  have h6' := numL_six b (by omega)
  have hmono := numL_mono hab
  have HA := hide (numL_all a)
  have HB := hide (numL_all b)
  have HLast := hide (numL_last a)
  have hpos := numL_pos a
  have HStr : Hid (((strN (numL a)).toList == (strN (numL b)).toList) = decide (a = b)) := by
    refine hide ?_
    by_cases e : a = b
    · subst e; simp
    · rw [decide_eq_false e, beq_eq_false_iff_ne]
      intro h
      exact e (numL_inj a b (strN_inj HA.out HB.out h))
  have HQ : Hid (∀ z, z = numL a → z.length = (numL a).length) := hide (fun z hz => by rw [hz])
  generalize (numL a).length = q at *
  generalize (numL b).length = q' at *
  go_wp2_with fail
  go_loop [7, 8] (fun n k => ∃ (m i : Nat), k = .int .i64 (m : Int) ∧ n = .int .i64 (i : Int) ∧ m ≤ 1099511627776 ∧ i + (numL m).length = q + 1) (fun _ k => (intOf k).toNat)
  case atStart => exact ⟨a, 1, rfl, rfl, by omega, by rw [HQ.out _ rfl]; omega⟩
  case round =>
    obtain ⟨m, i, rfl, rfl, hm, hi⟩ := hrel
    by_cases hlt : m < 128
    · have e1 : decide ((127 : Int) < (m : Int)) = false := by simp; omega
      have e2 : (m : Int) < 128 := by omega
      rw [numL_small m hlt] at hi
      have hiq : i = q := by simpa using hi
      subst hiq
      go_wp2_with fail
      go_loop [36, 9] (fun j _ => ∃ k : Nat, k ≤ i ∧ j = .int .i64 (k : Int)) (fun j _ => i - (intOf j).toNat)
      case atStart => exact ⟨0, Nat.zero_le _, rfl⟩
      case round =>
        obtain ⟨k, hk, rfl⟩ := hrel
        by_cases hkl : k < i
        · have hc := HXC.out k hkl
          have hl := HLast.out k hkl
          have h8 := all8_getD HA.out k
          generalize (numL a).getD k 0 = z at *
          have f1 : decide ((z : Int) < 128) = decide (k + 1 = i) := by
            by_cases e : k + 1 = i
            · have := hl.2 e; simp [e]; omega
            · have : ¬ z < 128 := fun h => e (hl.1 h)
              simp [e]; omega
          clear hl
          by_cases e : k + 1 = i
          · have g1 : decide ((z : Int) < 128) = true := by rw [f1]; simp [e]
            have g0 : z < 128 := by have := of_decide_eq_true g1; omega
            have g2 : ((k : Int) == (i : Int) - 1) = true := by simp; omega
            clear f1
            have E := hide e
            clear e
            go_wp2
            go_round
            case rel => exact ⟨k + 1, by omega, by go_num⟩
            case measure => simp [intOf]; omega
          · have g1 : decide ((z : Int) < 128) = false := by rw [f1]; simp [e]
            have g0 : ¬ z < 128 := by have := of_decide_eq_false g1; omega
            have g2 : ((k : Int) == (i : Int) - 1) = false := by simp; omega
            have g3 : ¬ (k : Int) = (i : Int) - 1 := by omega
            clear f1
            have E := hide e
            clear e
            go_wp2
            go_round
            case rel => exact ⟨k + 1, by omega, by go_num⟩
            case measure => simp [intOf]; omega
        · obtain rfl : k = i := by omega
          go_wp2_with fail
          rw [HVX.out]
          go_wp2_with fail
          rw [HVY.out]
          go_wp2_with fail
          rw [HStr.out]
          have hfin : (decide (a = b) == ((a : Int) == (b : Int))) = true := by
            by_cases e : a = b
            · subst e; simp
            · have e' : ¬ (a : Int) = (b : Int) := by omega
              have e2 : ((a : Int) == (b : Int)) = false := by rw [beq_eq_false_iff_ne]; exact e'
              rw [e2, decide_eq_false e]; rfl
          rw [hfin]
          go_ret
          exact ⟨rfl, HB3.out⟩
    · have e1 : decide ((127 : Int) < (m : Int)) = true := by simp; omega
      have HI : Hid (i + 1 + (numL (m / 128)).length = q + 1) := by
        refine hide ?_
        rw [numL_big m hlt, List.length_cons] at hi
        omega
      have hi6 : i < 100 := by omega
      clear hi
      go_wp2
      go_round
      case rel => exact ⟨m / 128, i + 1, by go_num, by go_num, by omega, HI.out⟩
      case measure => simp [intOf]; omega
end Go.Proofs.Ytnjkjljalinibab.CodeSizesW
