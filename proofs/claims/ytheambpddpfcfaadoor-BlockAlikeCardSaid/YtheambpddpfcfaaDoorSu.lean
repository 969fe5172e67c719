/- Cut: the sum's first bytes. -/
import Derived.Test.YtheambpddpfcfaaDoorSo
namespace Go.Proofs.YtheambpddpfcfaaDoor.Su
set_option linter.unusedVariables false
set_option linter.unusedSimpArgs false
set_option maxRecDepth 100000
open Go.ChangeShapes Go.WideShapes Go.ChangeAt Go.RowKit
open Go.Proofs.YtheambpddpfcfaaDoor.Wu Go.Proofs.YtheambpddpfcfaaDoor.Sm Go.Proofs.YtheambpddpfcfaaDoor.Sk Go.Proofs.YtheambpddpfcfaaDoor.Sc Go.Proofs.YtheambpddpfcfaaDoor.Sxa Go.Proofs.YtheambpddpfcfaaDoor.Sh Go.Proofs.YtheambpddpfcfaaDoor.Sn Go.Proofs.YtheambpddpfcfaaDoor.Sw0 Go.Proofs.YtheambpddpfcfaaDoor.Sx Go.Proofs.YtheambpddpfcfaaDoor.Sw Go.Proofs.YtheambpddpfcfaaDoor.Sb Go.Proofs.YtheambpddpfcfaaDoor.Sf Go.Proofs.YtheambpddpfcfaaDoor.So

/-- The first k bytes, noughts behind them. -/
def cutL (k : Nat) (X : List Nat) : List Nat := X.take k ++ zeros (32 - k)
/-- The number of bytes that count. -/
def Cnt (n : Int) (k : Nat) : Prop := (n ≤ 0 ∧ k = 0) ∨ (0 < n ∧ n ≤ 32 ∧ n = (k : Int)) ∨ (32 < n ∧ k = 32)
theorem parts_one {w : World} {B : Nat} {T : TypeId} {a : Option Addr} {m c : Nat} {L : List Nat} (hs : SrcB w a m L) (hc : m ≤ c) (hw : w.heap[B]? = some (.cells #[.slice a m c] T (0, 0))) :
    Parts w (some ⟨B, 0, none⟩) [⟨a, m, c, L⟩] := by
  refine ⟨B, 0, fun _ => rfl, fun i p hp => ?_⟩
  match i, hp with
  | 0, hp =>
    simp only [List.getElem?_cons_zero, Option.some.injEq] at hp
    subst hp
    exact ⟨blk_cell hw rfl, hs, hc⟩
theorem flat_one (a : Option Addr) (m c : Nat) (L : List Nat) : flat [⟨a, m, c, L⟩] = L := by simp [flat]
theorem sliceAllS (u : World) (B : Nat) :
    Sem.run Tryd.prog (Instr.sliceAt 61 (.pointer (some ⟨B, 0, none⟩)) none none none) u = .ok (.slice (some ⟨B, 0, none⟩) 32 32) u := by
  rw [run_sliceAt_array_all u 61 ⟨B, 0, none⟩ (by rw [alenS, aelemS]; exact Tryd.underlying61), aelemS, size_u8, alenS]
  simp only [Result.andThen, slicedAt, Nat.mul_one]
  rw [if_neg (by omega), Addr.add_mid]
theorem sliceHS (u : World) (B k : Nat) (l : Int) (hl : l = (k : Int)) (hk : k ≤ 32) :
    Sem.run Tryd.prog (Instr.sliceAt 61 (.pointer (some ⟨B, 0, none⟩)) none (some (.int .i64 l)) none) u = .ok (.slice (some ⟨B, 0, none⟩) k 32) u := by
  subst hl
  rw [run_sliceAt_array_h u 61 ⟨B, 0, none⟩ (by rw [alenS, aelemS]; exact Tryd.underlying61) .i64 _ (by omega) (by rw [alenS]; omega), aelemS, size_u8, alenS]
  simp only [Result.andThen, slicedAt, Int.toNat_natCast, Nat.mul_one]
  rw [if_neg (by omega), Addr.add_mid]
  simp
theorem cnt_is {n : Int} {k : Nat} (h : Cnt n k) : (if 32 < (if n < 0 then 0 else n) then 32 else if n < 0 then 0 else n) = (k : Int) ∧ k ≤ 32 := by
  unfold Cnt at h
  split <;> split <;> omega
theorem cutL_is (k : Nat) (X : List Nat) (hk : k ≤ 32) (hX : X.length = 32) : ((u8s (zeros 32)).toList.take 0 ++ (b8 (X.take k) ++ (u8s (zeros 32)).toList.drop (0 + (b8 (X.take k)).length))).toArray = u8s (cutL k X) := by
  rw [b8_length, List.length_take, hX, Nat.min_eq_left hk, List.take_zero, List.nil_append, Nat.zero_add, u8s_list, u8s_b8]
  have e : (b8 (zeros 32)).drop k = b8 (zeros (32 - k)) := by unfold b8 zeros; rw [← List.map_drop, List.drop_replicate]
  rw [e]
  unfold cutL b8
  rw [List.map_append]
theorem cutL_length (k : Nat) (X : List Nat) (hk : k ≤ 32) (hX : X.length = 32) : (cutL k X).length = 32 := by simp [cutL, zeros, hX]; omega
set_option maxHeartbeats 1600000 in
set_option maxRecDepth 100000 in
theorem cut_c (n : Int) (k : Nat) (a : Option Addr) (m c : Nat) (L : List Nat) (w : World) (hk : Cnt n k) (hs : SrcB w a m L) (hc : m ≤ c) (hT : Tbl w) (hF : Fst w) (hbig : m ≤ 140737488355328) :
    Calls Tryd.prog 54 #[.int .i64 n, .slice a m c] w fun e w' => e = .returned (.agg (u8s (cutL k (sha L)))) ∧ Below w.heap.size w w' := by
  have HS := hide hs
  have HT := hide hT
  have HF := hide hF
  have hl := hs.1
  have HL := hide hl
  have HR0 := hide (heap_2a w (.cells (u8s (zeros 32)) 61) (.cells #[.slice a m c] 22))
  have HP0 := hide (heap_2b w (.cells (u8s (zeros 32)) 61) (.cells #[.slice a m c] 22))
  have HB0 := hide (((Below.refl w.heap.size w).alloc (Nat.le_refl _) (.cells (u8s (zeros 32)) 61)).alloc (by simp) (.cells #[.slice a m c] 22))
  clear hs hT hF hl
  go_enter Tryd.func54, Tryd.ntmps54
  go_wp2_with fail
  rw [zlit8]
  generalize ((w.alloc (.cells (u8s (zeros 32)) 61)).alloc (.cells #[.slice a m c] 22)) = w0 at *
  have HPs := hide (parts_one (HS.out.below HB0.out) hc HP0.out)
  refine (of_c _ _ _ w0 HPs.out (tbl_keep HT.out HB0.out (Nat.le_refl _)) (fst_keep HF.out HB0.out (Nat.le_refl _)) (by rw [flat_one, HL.out]; exact hbig) (by simp)).mono ?_
  rintro e w1 ⟨rfl, hb1⟩
  rw [flat_one]
  obtain ⟨X, hX⟩ : ∃ X, X = sha L := ⟨_, rfl⟩
  have hXl : X.length = 32 := by rw [hX]; rfl
  have HX := hide hX
  rw [← hX]
  clear hX
  have HXl := hide hXl
  clear hXl
  have HR1 := hide (below_blk hb1 (heap_lt HR0.out) HR0.out)
  have HB1 := hide (keepB hb1 (Nat.le_refl _) HB0.out)
  have hz1 := heap_lt HR1.out
  have Hz := hide (heap_last w1 (.cells (u8s (zeros 32)) 61))
  have HSt := hide (sum_stored w1 X HXl.out)
  clear hb1 HB0 HR0 HP0 HPs
  go_wp2_with (refine wpList_store_mid rfl 61 (.tmp 5) (.tmp 9) rfl w1.heap.size 0 _ rfl rfl ?_ ?_ ?_ ?_)
  · rw [u8s_size, HXl.out, zlit8]; exact there8 Hz.out
  · rw [infoS, u8s_size, HXl.out]
  · exact u8s_one _
  rw [zlit8]
  have HR2 := hide (below_blk HSt.out.2 hz1 HR1.out)
  have HB2 := hide (keepB HSt.out.2 (Nat.le_refl _) HB1.out)
  have HW2 := hide HSt.out.1
  clear HSt Hz HR1 HB1
  generalize ((w1.alloc (.cells (u8s (zeros 32)) 61)).setCells w1.heap.size 0 (u8s X).toList) = w2 at *
  generalize w1.heap.size = WB at *
  have HW3 := hide (heap_old HW2.out (.cells (u8s (zeros 32)) 61))
  have HR3 := hide (heap_old HR2.out (.cells (u8s (zeros 32)) 61))
  have HS3 := hide (heap_last w2 (.cells (u8s (zeros 32)) 61))
  have HB3 := hide (HB2.out.alloc HB2.out.size (.cells (u8s (zeros 32)) 61))
  have hz2 := heap_lt HW2.out
  clear HW2 HR2 HB2
  focus
    generalize (w2.alloc (.cells (u8s (zeros 32)) 61)) = w3 at *
    generalize w2.heap.size = SB at *
    have hsa := fun v : World => sliceAllS v SB
    have HK := hide (cnt_is hk)
    have hk32 := HK.out.2
    clear hk
    have hs0 := fun v : World => sliceHS v WB k _ HK.out.1 hk32
    go_wp2_with fail
    go_still_tail 5, (by kernel_rfl)
    refine wpList_copy_own rfl (.tmp 10) (.tmp 14) 22 22 rfl 5 Tryd.underlying22 info_u8s SB 0 32 32 ⟨WB, 0, none⟩ k 32 rfl rfl (u8s (zeros 32)) 61 HS3.out (b8 (X.take k)) ?_ ?_ ?_ (b8_one _) ?_
    · rw [b8_length, List.length_take, HXl.out]
    · intro j v hv
      obtain ⟨hj, rfl⟩ := b8_at hv
      rw [List.length_take, HXl.out] at hj
      rw [Addr.add_mid, Nat.zero_add]
      show w3.drew.cell? _ = _
      rw [row8 (w := w3.drew) (i := j) HW3.out (by rw [HXl.out]; omega)]
      congr 3
      simp [List.getD, List.getElem?_take_of_lt (show j < k by omega)]
    · rw [b8_length, List.length_take, HXl.out, u8s_size, zeros_length]; omega
    rw [cutL_is k X hk32 HXl.out]
    have H6 := hide (setRow_heap w3.drew SB _ (u8s (cutL k X)) _ _ HS3.out)
    have HR6 : Hid ((w3.drew.setRow SB (u8s (cutL k X))).heap[w.heap.size]? = some (.cells (u8s (zeros 32)) 61 (0, 0))) := (setRow_other w3.drew SB _ _ (by omega)).trans HR3.out
    have HB6 := hide (below_setRow (g := SB) HB3.out.drew (by omega) (u8s (cutL k X)))
    have HC := hide (cutL_length k X hk32 HXl.out)
    clear hs0 hsa HS3 HR3 HB3 HW3
    show wpList _ _ _ _ (Act.put _ _ (goInt (b8 (X.take k)).length)) (w3.drew.setRow SB (u8s (cutL k X)))
    generalize (w3.drew.setRow SB (u8s (cutL k X))) = w6 at *
    have HX' : Hid (cutL k (sha L) = cutL k X) := by show _ = _; rw [HX.out]
    generalize cutL k X = Y at *
    have hr := hide (range8_all H6.out)
    have ht := hide (there8 HR6.out)
    have Hsz : Hid ((u8s Y).toList.length = 32) := by show _ = _; simp [u8s_size, HC.out]
    have Hs2 : Hid ((u8s Y).toList.toArray.size = 32) := by show _ = _; rw [Array.toArray_toList, u8s_size, HC.out]
    go_wp2_with (first
      | (refine wpList_load_mid rfl 61 (.tmp 6) rfl SB 0 rfl _ _ hr.out Tryd.underlying61 rfl (by rw [infoS, Hsz.out]) ?_)
      | (refine wpList_store_mid rfl 61 (.tmp 4) (.tmp 16) rfl w.heap.size 0 _ rfl rfl ?_ ?_ ?_ ?_))
    · rw [Hs2.out]; exact ht.out
    · rw [infoS, Hs2.out]
    · rw [Array.toArray_toList]; exact u8s_one _
    all_goals
      rw [Array.toArray_toList]
      have e := set_all8 Y (zeros 32) HR6.out HC.out
      have hb : Below w.heap.size w (w6.setCells w.heap.size 0 (u8s Y).toList) := below_setCells _ _ _ _ HB6.out (Nat.le_refl _)
      refine bodyPost_ret (v := .agg (u8s Y)) ?_ rfl ⟨by rw [HX'.out], hb⟩
      rw [results_one_cell Tryd.results54]
      have h4 := run_loadVar_mid (P := Tryd.prog) (w6.setCells w.heap.size 0 (u8s Y).toList) w.heap.size 0 61 (u8s Y).toList _ (range8_all e) Tryd.underlying61 rfl (by rw [infoS, Hsz.out])
      rw [Array.toArray_toList] at h4
      simpa [asAddr, Act.put] using h4
end Go.Proofs.YtheambpddpfcfaaDoor.Su
