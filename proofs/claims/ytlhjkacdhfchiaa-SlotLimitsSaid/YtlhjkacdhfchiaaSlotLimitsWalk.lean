/- SlotLimits' walk. -/
import Derived.Test.YtlhjkacdhfchiaaXe
namespace Go.Proofs.Ytlhjkacdhfchiaa.SlotLimitsW
set_option linter.unusedVariables false
set_option linter.unusedSimpArgs false
set_option maxRecDepth 100000
open Go.ChangeShapes Go.WideShapes Go.ChangeAt Go.RowKit
open Go.Proofs.Ytlhjkacdhfchiaa.Wu Go.Proofs.Ytlhjkacdhfchiaa.Rk Go.Proofs.Ytlhjkacdhfchiaa.Km Go.Proofs.Ytlhjkacdhfchiaa.Xa Go.Proofs.Ytlhjkacdhfchiaa.Xb Go.Proofs.Ytlhjkacdhfchiaa.Xc Go.Proofs.Ytlhjkacdhfchiaa.Xd Go.Proofs.Ytlhjkacdhfchiaa.Xm Go.Proofs.Ytlhjkacdhfchiaa.Xe
def na : ByteArray := ⟨#[97]⟩
set_option maxHeartbeats 1600000 in
theorem out_walk (s : Int) (a : Option Addr) (m c : Nat) (w : World) (hg : s < 0 ∨ 20 < s ∨ 100 < m) :
    Calls Try.prog 4 #[.int .i64 s, .slice a m c] w fun e w' => e = .returned (.bool true) ∧ Below w.heap.size w w' := by
  have HH := hide (enters_c w)
  by_cases c1 : s < 0
  · have d1 : decide (s < 0) = true := by simpa using c1
    clear hg c1
    go_enter Try.func4, Try.ntmps4
    go_wp2_with fail
    refine HH.out.mono ?_
    rintro e w1 ⟨rfl, hb⟩
    have HB := hide hb
    clear hb
    go_wp2
    go_ret
    exact ⟨rfl, HB.out⟩
  have d1 : decide (s < 0) = false := by simpa using c1
  by_cases c2 : 20 < s
  · have d2 : decide (20 < s) = true := by simpa using c2
    clear hg c1 c2
    go_enter Try.func4, Try.ntmps4
    go_wp2_with fail
    refine HH.out.mono ?_
    rintro e w1 ⟨rfl, hb⟩
    have HB := hide hb
    clear hb
    go_wp2
    go_ret
    exact ⟨rfl, HB.out⟩
  have d2 : decide (20 < s) = false := by simpa using c2
  have d3 : decide ((100 : Int) < (m : Int)) = true := by simp; omega
  have d3' : decide (100 < m) = true := by simp; omega
  clear hg c1 c2
  go_enter Try.func4, Try.ntmps4
  go_wp2_with fail
  refine HH.out.mono ?_
  rintro e w1 ⟨rfl, hb⟩
  have HB := hide hb
  clear hb
  go_wp2
  go_ret
  exact ⟨rfl, HB.out⟩
set_option maxHeartbeats 3200000 in
theorem in_walk (s : Int) (a : Option Addr) (m c : Nat) (zs : List Int) (w : World) (hs0 : 0 ≤ s) (hs : s ≤ 20) (hm : m ≤ 100)
    (hz : 0 < m → ∃ xb xo, a = some ⟨xb, xo, none⟩ ∧ ∀ i, i < m → w.cell? ⟨xb, xo + i, none⟩ = some (.int .i64 (zs.getD i 0))) (hw : ∀ i, i < m → (Lit.int .i64 (zs.getD i 0)).wf = true) :
    Calls Try.prog 4 #[.int .i64 s, .slice a m c] w fun e w' => e = .returned (.bool true) ∧ Below w.heap.size w w' := by
  have HH := hide (enters_c w)
  have d1 : decide (s < 0) = false := by simp; omega
  have d2 : decide (20 < s) = false := by simp; omega
  have d3 : decide ((100 : Int) < (m : Int)) = false := by simp; omega
  have d3' : decide (100 < m) = false := by simp; omega
  have HZ := hide hz
  have HW := hide hw
  clear hz hw
  go_enter Try.func4, Try.ntmps4
  go_wp2_with fail
  refine HH.out.mono ?_
  rintro e w1 ⟨rfl, hb⟩
  have HB := hide hb
  clear hb HH
  go_wp2_with fail
  refine (new_c w1).mono ?_
  rintro e w2 ⟨rfl, hs2, hb2⟩
  have H2 := hide (show Lw w (w1.heap.size + 1) w1.heap.size [] w2 from ⟨hs2, keepB hb2 (Nat.le_refl _) HB.out, HB.out.size⟩)
  have HA : Hid (All1 na s []) := hide ⟨fun u hu => (by cases hu), by simpa using hs0⟩
  clear hs2 hb2 HB
  generalize w1.heap.size + 1 = P at *
  generalize w1.heap.size = M at *
  clear d1 d2 d3 d3'
  go_wp2_with fail
  have H3 := hide (H2.out.up (below_new w2 (.cells #[.string ⟨#[97]⟩, .string ⟨#[]⟩, .bool false, .int .i64 s, .int .i64 0, .slice none 0 0] 35)))
  have HX3 := hide (heap_last w2 (.cells #[.string ⟨#[97]⟩, .string ⟨#[]⟩, .bool false, .int .i64 s, .int .i64 0, .slice none 0 0] 35))
  generalize w2.alloc (.cells #[.string ⟨#[97]⟩, .string ⟨#[]⟩, .bool false, .int .i64 s, .int .i64 0, .slice none 0 0] 35) = w3 at *
  generalize w2.heap.size = X at *
  clear H2
  go_loopw [7, 8, 32] (fun la so j wr => ∃ (i : Nat) (L : List Sl) (x : Int) (b : Bool), la = .int .i64 x ∧ so = .bool b ∧ j = .int .i64 (i : Int) ∧ i ≤ m ∧ (Lit.int .i64 x).wf = true ∧ All1 na s L ∧ Lw w P M L wr ∧ wr.heap[X]? = some (.cells #[.string ⟨#[97]⟩, .string ⟨#[]⟩, .bool false, .int .i64 s, .int .i64 0, .slice none 0 0] 35 (0, 0))) (fun _ _ j _ => m - (intOf j).toNat)
  case atStart => exact ⟨0, [], 0, false, rfl, rfl, rfl, Nat.zero_le _, by decide, HA.out, H3.out, HX3.out⟩
  case round =>
    clear HA H3 HX3
    obtain ⟨i, L, x, b, rfl, rfl, rfl, hi, hx, hA, hL, hX⟩ := hrel
    have HL := hide hL
    have HX := hide hX
    have HA := hide hA
    have Hx := hide hx
    have hfew := hA.few
    have hcnt := cnt_all hA.all
    clear hx
    by_cases hlt : i < m
    · have d1 : decide ((i : Int) < (m : Int)) = true := by simpa using hlt
      have i1 : (0 : Int) ≤ (i : Int) := by omega
      have i2 : (i : Int) < (m : Int) := by omega
      obtain ⟨xb, xo, rfl, hcell⟩ := HZ.out (by omega)
      have hc := hcell i hlt
      have hcw := keepC HL.out.below (Nat.le_refl _) hc
      have hwf := HW.out i hlt
      obtain ⟨z, hzd⟩ : ∃ z, z = zs.getD i 0 := ⟨_, rfl⟩
      rw [← hzd] at hcw hwf
      have Hwf := hide hwf
      clear hcell hc hwf hzd hL hX hA
      cases hr : ((i : Int) % 3 == 2) with
      | true =>
        have HC := hide (leave_c P M L z wr HL.out.slots Hwf.out)
        have HA2 := hide (HA.out.leave z)
        obtain ⟨r, hr2⟩ : ∃ r, r = leaveF L z := ⟨_, rfl⟩
        rw [← hr2] at HC HA2
        obtain ⟨v, L1⟩ := r
        have HA1 : Hid (All1 na s L1) := HA2
        clear hr2 HA2 hcnt hfew HA
        go_wp2_with fail
        refine HC.out.mono ?_
        rintro e w4 ⟨rfl, hs4, hg⟩
        have H4 := hide (HL.out.turn hs4 hg)
        have HX4 := hide (HL.out.cells hg HX.out)
        clear hs4 hg HC HL HX hcw hr
        simp only at H4
        obtain ⟨q, hq⟩ : ∃ q, q = L1.length := ⟨_, rfl⟩
        have hq1 : (q : Int) ≤ s := by rw [hq]; exact HA1.out.few
        have HC1 := hide (fun (u : World) (hu : SlW u P M L1) => count_c P M L1 na u hu)
        have HC2 := hide (fun (u : World) (hu : SlW u P M L1) => len_c P M L1 u hu)
        rw [cnt_all HA1.out.all, ← hq] at HC1
        rw [← hq] at HC2
        have dq : decide (s < (q : Int)) = false := by simp; omega
        clear hq hq1
        go_wp2_with fail
        refine (HC1.out w4 H4.out.slots).mono ?_
        rintro e w5 ⟨rfl, hb⟩
        have H5 := hide (H4.out.up hb)
        have HX5 := hide (below_blk hb (heap_lt HX4.out) HX4.out)
        clear hb H4 HX4
        go_wp2_with fail
        refine (HC1.out w5 H5.out.slots).mono ?_
        rintro e w6 ⟨rfl, hb⟩
        have H6 := hide (H5.out.up hb)
        have HX6 := hide (below_blk hb (heap_lt HX5.out) HX5.out)
        clear hb H5 HX5 HC1
        go_wp2_with fail
        refine (HC2.out w6 H6.out.slots).mono ?_
        rintro e w7 ⟨rfl, rfl⟩
        clear HC2
        go_wp2
        go_roundw
        case rel => exact ⟨i + 1, L1, x, b, rfl, rfl, by go_num, by omega, Hx.out, HA1.out, H6.out, HX6.out⟩
        case measure => simp [intOf]; omega
      | false =>
        have HC := hide (enter_c P M L z na ⟨#[]⟩ false s 0 (.slice none 0 0) wr HL.out.slots Hwf.out (by unfold maxLen; omega))
        have HA2 := hide (HA.out.enter z)
        obtain ⟨r, hr2⟩ : ∃ r, r = enterF L z na s := ⟨_, rfl⟩
        rw [← hr2] at HC HA2
        obtain ⟨v, L1⟩ := r
        have HA1 : Hid (All1 na s L1) := HA2
        clear hr2 HA2 hcnt hfew HA
        have m0 := blk_cell (i := 0) HX.out rfl
        have m1 := blk_cell (i := 1) HX.out rfl
        have m2 := blk_cell (i := 2) HX.out rfl
        have m3 := blk_cell (i := 3) HX.out rfl
        have m4 := blk_cell (i := 4) HX.out rfl
        have m5 := blk_cell (i := 5) HX.out rfl
        go_wp2_with fail
        clear m0 m1 m2 m3 m4 m5
        refine HC.out.mono ?_
        rintro e w4 ⟨rfl, hs4, hg⟩
        have H4 := hide (HL.out.turn hs4 hg)
        have HX4 := hide (HL.out.cells hg HX.out)
        clear hs4 hg HC HL HX hcw hr
        simp only at H4 ⊢
        by_cases hv : v = 0
        · subst hv
          obtain ⟨q, hq⟩ : ∃ q, q = L1.length := ⟨_, rfl⟩
          have hq1 : (q : Int) ≤ s := by rw [hq]; exact HA1.out.few
          have HC1 := hide (fun (u : World) (hu : SlW u P M L1) => count_c P M L1 na u hu)
          have HC2 := hide (fun (u : World) (hu : SlW u P M L1) => len_c P M L1 u hu)
          rw [cnt_all HA1.out.all, ← hq] at HC1
          rw [← hq] at HC2
          have dq : decide (s < (q : Int)) = false := by simp; omega
          clear hq hq1
          go_wp2_with fail
          refine (HC1.out w4 H4.out.slots).mono ?_
          rintro e w5 ⟨rfl, hb⟩
          have H5 := hide (H4.out.up hb)
          have HX5 := hide (below_blk hb (heap_lt HX4.out) HX4.out)
          clear hb H4 HX4
          go_wp2_with fail
          refine (HC1.out w5 H5.out.slots).mono ?_
          rintro e w6 ⟨rfl, hb⟩
          have H6 := hide (H5.out.up hb)
          have HX6 := hide (below_blk hb (heap_lt HX5.out) HX5.out)
          clear hb H5 HX5 HC1
          go_wp2_with fail
          refine (HC2.out w6 H6.out.slots).mono ?_
          rintro e w7 ⟨rfl, rfl⟩
          clear HC2
          go_wp2
          go_roundw
          case rel => exact ⟨i + 1, L1, z, true, rfl, rfl, by go_num, by omega, Hwf.out, HA1.out, H6.out, HX6.out⟩
          case measure => simp [intOf]; omega
        · have dv : (v == 0) = false := by simpa using hv
          clear hv
          obtain ⟨q, hq⟩ : ∃ q, q = L1.length := ⟨_, rfl⟩
          have hq1 : (q : Int) ≤ s := by rw [hq]; exact HA1.out.few
          have HC1 := hide (fun (u : World) (hu : SlW u P M L1) => count_c P M L1 na u hu)
          have HC2 := hide (fun (u : World) (hu : SlW u P M L1) => len_c P M L1 u hu)
          rw [cnt_all HA1.out.all, ← hq] at HC1
          rw [← hq] at HC2
          have dq : decide (s < (q : Int)) = false := by simp; omega
          clear hq hq1
          go_wp2_with fail
          refine (HC1.out w4 H4.out.slots).mono ?_
          rintro e w5 ⟨rfl, hb⟩
          have H5 := hide (H4.out.up hb)
          have HX5 := hide (below_blk hb (heap_lt HX4.out) HX4.out)
          clear hb H4 HX4
          go_wp2_with fail
          refine (HC1.out w5 H5.out.slots).mono ?_
          rintro e w6 ⟨rfl, hb⟩
          have H6 := hide (H5.out.up hb)
          have HX6 := hide (below_blk hb (heap_lt HX5.out) HX5.out)
          clear hb H5 HX5 HC1
          go_wp2_with fail
          refine (HC2.out w6 H6.out.slots).mono ?_
          rintro e w7 ⟨rfl, rfl⟩
          clear HC2
          go_wp2
          go_roundw
          case rel => exact ⟨i + 1, L1, x, b, rfl, rfl, by go_num, by omega, Hx.out, HA1.out, H6.out, HX6.out⟩
          case measure => simp [intOf]; omega
    · obtain rfl : i = m := by omega
      have d1 : decide ((i : Int) < (i : Int)) = false := by simp
      have HC := hide (in_c P M L x wr HL.out.slots Hx.out)
      cases hp : placed L x with
      | false =>
        rw [inV_false hp] at HC
        clear hp hcnt hfew HA hL hX hA
        go_wp2_with fail
        refine HC.out.mono ?_
        rintro e w4 ⟨rfl, hb⟩
        have HB := hide (HL.out.up hb).below
        clear hb HC HL HX
        cases b <;> (go_wp2; go_ret; exact ⟨rfl, HB.out⟩)
      | true =>
        obtain ⟨sx, hsx⟩ := placed_find hp
        rw [inV_true HL.out.slots.once hsx] at HC
        obtain ⟨a1, a2, a3⟩ := HA.out.again HL.out.slots.once hp
        have HC1 := hide (fun (u : World) (hu : SlW u P M L) => count_c P M L na u hu)
        have HC2 := hide (fun (u : World) (hu : SlW u P M L) => leave_c P M L x u hu Hx.out)
        have hl2 : (leaveF L x).2.length ≤ 100 := by
          have := (HA.out.leave x).few
          omega
        obtain ⟨r, hr2⟩ : ∃ r, r = leaveF L x := ⟨_, rfl⟩
        rw [← hr2] at HC2 a1 a2 a3 hl2
        obtain ⟨v, L1⟩ := r
        simp only at a1 a2 a3 hl2
        have HC3 := hide (fun (u : World) (hu : SlW u P M L1) => count_c P M L1 na u hu)
        have HC4 := hide (fun (u : World) (hu : SlW u P M L1) => enter_c P M L1 x na ⟨#[]⟩ false s 0 (.slice none 0 0) u hu Hx.out (by unfold maxLen; omega))
        obtain ⟨r2, hr3⟩ : ∃ r, r = enterF L1 x na s := ⟨_, rfl⟩
        rw [← hr3] at HC4 a3
        obtain ⟨v2, L2⟩ := r2
        simp only at a3
        subst a1 a3
        obtain ⟨q, hq⟩ : ∃ q, q = cnt na L := ⟨_, rfl⟩
        rw [← hq] at HC1 a2
        rw [a2] at HC3
        have hqb : q ≤ 20 := by rw [hq, hcnt]; omega
        have hw1 : IntKind.i64.wrap ((q : Int) - 1) = (q : Int) - 1 := IntWalk.i64_in _ (by omega)
        clear hp hcnt hfew HA hL hX hA hsx hr2 hr3 a2 hl2 hq
        go_wp2_with fail
        refine HC.out.mono ?_
        rintro e w4 ⟨rfl, hb⟩
        have H4 := hide (HL.out.up hb)
        have HX4 := hide (below_blk hb (heap_lt HX.out) HX.out)
        clear hb HC HL HX
        cases b with
        | false =>
          have HB := hide H4.out.below
          go_wp2
          go_ret
          exact ⟨rfl, HB.out⟩
        | true =>
          go_wp2_with fail
          refine (HC1.out w4 H4.out.slots).mono ?_
          rintro e w5 ⟨rfl, hb⟩
          have H5 := hide (H4.out.up hb)
          have HX5 := hide (below_blk hb (heap_lt HX4.out) HX4.out)
          clear hb H4 HX4 HC1
          go_wp2_with fail
          refine (HC2.out w5 H5.out.slots).mono ?_
          rintro e w6 ⟨rfl, hs6, hg⟩
          have H6 := hide (H5.out.turn hs6 hg)
          have HX6 := hide (H5.out.cells hg HX5.out)
          clear hs6 hg H5 HX5 HC2
          simp only at H6
          go_wp2_with fail
          refine (HC3.out w6 H6.out.slots).mono ?_
          rintro e w7 ⟨rfl, hb⟩
          have H7 := hide (H6.out.up hb)
          have HX7 := hide (below_blk hb (heap_lt HX6.out) HX6.out)
          clear hb H6 HX6 HC3
          have m0 := blk_cell (i := 0) HX7.out rfl
          have m1 := blk_cell (i := 1) HX7.out rfl
          have m2 := blk_cell (i := 2) HX7.out rfl
          have m3 := blk_cell (i := 3) HX7.out rfl
          have m4 := blk_cell (i := 4) HX7.out rfl
          have m5 := blk_cell (i := 5) HX7.out rfl
          go_wp2_with fail
          clear m0 m1 m2 m3 m4 m5
          refine (HC4.out w7 H7.out.slots).mono ?_
          rintro e w8 ⟨rfl, hs8, hg⟩
          have HB := hide (H7.out.turn hs8 hg).below
          clear hs8 hg H7 HX7
          go_wp2
          go_ret
          exact ⟨rfl, HB.out⟩
theorem walk_any (s : Int) (a : Option Addr) (m c : Nat) (zs : List Int) (w : World)
    (hz : 0 < m → ∃ xb xo, a = some ⟨xb, xo, none⟩ ∧ ∀ i, i < m → w.cell? ⟨xb, xo + i, none⟩ = some (.int .i64 (zs.getD i 0))) (hw : ∀ i, i < m → (Lit.int .i64 (zs.getD i 0)).wf = true) :
    Calls Try.prog 4 #[.int .i64 s, .slice a m c] w fun e w' => e = .returned (.bool true) ∧ Below w.heap.size w w' := by
  by_cases hg : s < 0 ∨ 20 < s ∨ 100 < m
  · exact out_walk s a m c w hg
  · exact in_walk s a m c zs w (by omega) (by omega) (by omega) hz hw
end Go.Proofs.Ytlhjkacdhfchiaa.SlotLimitsW
