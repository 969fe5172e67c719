/- SumNested's walk. -/
import Derived.Test.YtnjkjljalinibaaDoorSg
namespace Go.Proofs.YtnjkjljalinibaaDoor.SumNestedW
set_option linter.unusedVariables false
set_option linter.unusedSimpArgs false
open Go.ChangeShapes Go.WideShapes Go.ChangeAt Go.RowKit
open Go.Proofs.YtnjkjljalinibaaDoor.Wu Go.Proofs.YtnjkjljalinibaaDoor.Sm Go.Proofs.YtnjkjljalinibaaDoor.Sk Go.Proofs.YtnjkjljalinibaaDoor.Sc Go.Proofs.YtnjkjljalinibaaDoor.Sxa Go.Proofs.YtnjkjljalinibaaDoor.Sh Go.Proofs.YtnjkjljalinibaaDoor.Sn Go.Proofs.YtnjkjljalinibaaDoor.Sw0 Go.Proofs.YtnjkjljalinibaaDoor.Sx Go.Proofs.YtnjkjljalinibaaDoor.Sw Go.Proofs.YtnjkjljalinibaaDoor.Sb Go.Proofs.YtnjkjljalinibaaDoor.Sf Go.Proofs.YtnjkjljalinibaaDoor.So Go.Proofs.YtnjkjljalinibaaDoor.Su Go.Proofs.YtnjkjljalinibaaDoor.St Go.Proofs.YtnjkjljalinibaaDoor.Sg Go.Proofs.YtnjkjljalinibaaDoor.Sv

theorem cutL_set (k : Nat) (X : List Nat) (hX : X.length = 32) (hk : k < 32) : (cutL (k + 1) X).set k 0 = cutL k X := by
  unfold cutL
  have hl : (X.take k).length = k := by rw [List.length_take]; omega
  rw [List.take_succ_eq_append_getElem (by omega), List.append_assoc, List.set_append_right _ _ (by omega), hl, Nat.sub_self, show 32 - k = (32 - (k + 1)) + 1 by omega]
  rfl
theorem cutL_none (X : List Nat) : cutL 0 X = zeros 32 := by simp [cutL]
theorem cutL_all (X : List Nat) (hX : X.length = 32) : cutL 32 X = X := by
  unfold cutL; rw [List.take_of_length_le (by omega)]; simp [zeros]
theorem out_walk (n : Int) (a b : Option Addr) (m c m' c' : Nat) (w : World) (hT : Tbl w) (hF : Fst w) (hn1 : -9223372036854775808 ≤ n) (hn2 : n ≤ 9223372036854775807) (hg : n < 0 ∨ 31 < n ∨ 300 < m ∨ 300 < m') :
    Calls Tryd.prog 7 #[.int .i64 n, .slice a m c, .slice b m' c'] w fun e w' => e = .returned (.bool true) ∧ Below w.heap.size w w' := by
  have HT := hide hT
  have HF := hide hF
  clear hT hF
  have hc : (n < 0) ∨ (¬ n < 0 ∧ 31 < n) ∨ (¬ n < 0 ∧ ¬ 31 < n ∧ 300 < m) ∨ (¬ n < 0 ∧ ¬ 31 < n ∧ ¬ 300 < m ∧ 300 < m') := by omega
  rcases hc with h1 | ⟨h1, h2⟩ | ⟨h1, h2, h3⟩ | ⟨h1, h2, h3, h4⟩
  all_goals
    go_enter Tryd.func7, Tryd.ntmps7
    go_wp2_with fail
    refine (known_c w HT.out HF.out).mono ?_
    rintro e w1 ⟨rfl, hb1⟩
    have HB1 := hide hb1
    clear hb1
    go_wp2
    go_ret
    exact ⟨rfl, HB1.out⟩
set_option maxHeartbeats 1600000 in
set_option maxRecDepth 100000 in
theorem in_walk (k : Nat) (a b : Option Addr) (m c m' c' : Nat) (L L' : List Nat) (w : World) (hs : SrcB w a m L) (hc : m ≤ c) (hs' : SrcB w b m' L') (hc' : m' ≤ c') (hT : Tbl w) (hF : Fst w) (hk : k < 32) (hm : m ≤ 300) (hm' : m' ≤ 300) :
    Calls Tryd.prog 7 #[.int .i64 (k : Int), .slice a m c, .slice b m' c'] w fun e w' => e = .returned (.bool true) ∧ Below w.heap.size w w' := by
  have HT := hide hT
  have HF := hide hF
  have HS := hide hs
  have HS' := hide hs'
  clear hT hF hs hs'
  have d1 : decide ((k : Int) < 0) = false := by simp
  have d2 : decide (31 < (k : Int)) = false := by simp; omega
  go_enter Tryd.func7, Tryd.ntmps7
  go_wp2_with fail
  refine (known_c w HT.out HF.out).mono ?_
  rintro e w1 ⟨rfl, hb1⟩
  have HB1 := hide hb1
  clear hb1
  go_wp2_with fail
  refine (cut_c (k : Int) k a m c L w1 (by unfold Cnt; omega) (HS.out.below HB1.out) hc (tbl_keep HT.out HB1.out (Nat.le_refl _)) (fst_keep HF.out HB1.out (Nat.le_refl _)) (by omega)).mono ?_
  rintro e w2 ⟨rfl, hb2⟩
  have HB2 := hide (keepB hb2 (Nat.le_refl _) HB1.out)
  clear hb2 HB1
  go_wp2_with fail
  refine (cut_c ((k : Int) + 1) (k + 1) a m c L w2 (by unfold Cnt; omega) (HS.out.below HB2.out) hc (tbl_keep HT.out HB2.out (Nat.le_refl _)) (fst_keep HF.out HB2.out (Nat.le_refl _)) (by omega)).mono ?_
  rintro e w3 ⟨rfl, hb3⟩
  have HB3 := hide (keepB hb3 (Nat.le_refl _) HB2.out)
  clear hb3 HB2
  obtain ⟨X, hX⟩ : ∃ X, X = cutL k (sha L) := ⟨_, rfl⟩
  obtain ⟨Y, hY⟩ : ∃ Y, Y = cutL (k + 1) (sha L) := ⟨_, rfl⟩
  have HXl : Hid (X.length = 32) := by show _ = _; rw [hX]; exact cutL_length _ _ (by omega) (sha_length _)
  have HYl : Hid (Y.length = 32) := by show _ = _; rw [hY]; exact cutL_length _ _ (by omega) (sha_length _)
  have HXY : Hid (Y.set k 0 = X) := by show _ = _; rw [hX, hY]; exact cutL_set k _ (sha_length _) hk
  rw [← hX, ← hY]
  clear hX hY
  have Hx0 := hide (heap_2a w3 (.cells (u8s (zeros 32)) 27) (.cells (u8s (zeros 32)) 27))
  have Hy0 := hide (heap_2b w3 (.cells (u8s (zeros 32)) 27) (.cells (u8s (zeros 32)) 27))
  have HBy := hide ((HB3.out.alloc HB3.out.size (.cells (u8s (zeros 32)) 27)).alloc (by have := HB3.out.size; simp; omega) (.cells (u8s (zeros 32)) 27))
  have hw3 := HB3.out.size
  go_wp2_with (first
    | (refine wpList_store_whole rfl 27 (.tmp 7) (.tmp 29) rfl w3.heap.size X (zeros 32) 27 rfl rfl Hx0.out HXl.out (by rw [infoS, HXl.out]) ?_))
  rw [zlit8]
  intro w4 Hx1 Hg4
  have Hy1 := hide (keepG Hg4.out (by omega) Hy0.out)
  have HB4 := hide (belowG HBy.out Hg4.out hw3 HBy.out.size)
  clear Hx0 Hy0 HBy HB3 Hg4
  generalize w3.heap.size = P at *
  refine of_hid ?_
  go_wp2_with (refine wpList_store_whole rfl 27 (.tmp 8) (.tmp 33) rfl (P + 1) Y (zeros 32) 27 rfl rfl Hy1.out HYl.out (by rw [infoS, HYl.out]) ?_)
  intro w5 Hy2 Hg5
  have Hx2 := hide (keepG Hg5.out (by omega) Hx1.out)
  have HB5 := hide (belowG HB4.out Hg5.out (by omega) HB4.out.size)
  clear Hx1 Hy1 HB4 Hg5
  refine of_hid ?_
  have cy := row8 (i := k) Hy2.out (by rw [HYl.out]; exact hk)
  have fy := blk_free (i := k) Hy2.out
  have k0 : (0 : Int) ≤ (k : Int) := by omega
  have k1 : (k : Int) < 32 := by omega
  generalize Y.getD k 0 = old at *
  have Hy3 := hide (blk_set (i := k) Hy2.out (.int .u8 ((0 : Nat) : Int)))
  rw [u8s_set, HXY.out] at Hy3
  have Hx3 := hide (blk_set_other (B := P + 1) (i := k) Hx2.out (by omega) (.int .u8 0))
  have HB6 := hide (HB5.out.setCell (p := ⟨P + 1, k, none⟩) (by simp; omega) (.int .u8 0))
  have hq1 := sum_same X HXl.out
  clear Hx2 Hy2 HB5
  go_wp2_with (first
    | (refine wpList_load_whole rfl 27 (.tmp 7) rfl P X 27 (0, 0) rfl Hx3.out _ Tryd.underlying27 rfl (by rw [infoS, HXl.out]) ?_)
    | (refine wpList_load_whole rfl 27 (.tmp 8) rfl (P + 1) X 27 (0, 0) rfl Hy3.out _ Tryd.underlying27 rfl (by rw [infoS, HXl.out]) ?_))
  generalize (w5.setCell ⟨P + 1, k, none⟩ (Value.int IntKind.u8 0)) = w6 at *
  clear hq1 Hx3 Hy3 cy fy
  refine (cut_c 0 0 a m c L w6 (by unfold Cnt; omega) (HS.out.below HB6.out) hc (tbl_keep HT.out HB6.out (Nat.le_refl _)) (fst_keep HF.out HB6.out (Nat.le_refl _)) (by omega)).mono ?_
  rintro e w7 ⟨rfl, hb7⟩
  have HB7 := hide (keepB hb7 (Nat.le_refl _) HB6.out)
  clear hb7 HB6
  rw [cutL_none]
  go_wp2_with fail
  refine (cut_c 0 0 b m' c' L' w7 (by unfold Cnt; omega) (HS'.out.below HB7.out) hc' (tbl_keep HT.out HB7.out (Nat.le_refl _)) (fst_keep HF.out HB7.out (Nat.le_refl _)) (by omega)).mono ?_
  rintro e w8 ⟨rfl, hb8⟩
  have HB8 := hide (keepB hb8 (Nat.le_refl _) HB7.out)
  clear hb8 HB7
  rw [cutL_none]
  have hq2 := sum_same (zeros 32) (zeros_length _)
  go_wp2_with fail
  clear hq2
  refine (cut_c 32 32 a m c L w8 (by unfold Cnt; omega) (HS.out.below HB8.out) hc (tbl_keep HT.out HB8.out (Nat.le_refl _)) (fst_keep HF.out HB8.out (Nat.le_refl _)) (by omega)).mono ?_
  rintro e w9 ⟨rfl, hb9⟩
  have HB9 := hide (keepB hb9 (Nat.le_refl _) HB8.out)
  clear hb9 HB8
  rw [cutL_all _ (sha_length _)]
  have H10 := hide (heap_last w9 (.cells #[.slice a m c] 31))
  have HB10 := hide (HB9.out.alloc HB9.out.size (.cells #[.slice a m c] 31))
  go_wp2_with fail
  generalize (w9.alloc (.cells #[.slice a m c] 31)) = w10 at *
  have Hl := hide HS.out.1
  refine (of_c _ _ [⟨a, m, c, L⟩] w10 (parts_one (HS.out.below HB10.out) hc H10.out) (tbl_keep HT.out HB10.out (Nat.le_refl _)) (fst_keep HF.out HB10.out (Nat.le_refl _)) (by rw [flat_one, Hl.out]; omega) (by simp)).mono ?_
  rintro e w11 ⟨rfl, hb11⟩
  have HB11 := hide (keepB hb11 (Nat.le_refl _) HB10.out)
  clear hb11 HB10 HB9 H10
  rw [flat_one]
  have hq3 := sum_same (sha L) (sha_length _)
  go_wp2
  go_ret
  exact ⟨rfl, HB11.out⟩
end Go.Proofs.YtnjkjljalinibaaDoor.SumNestedW
