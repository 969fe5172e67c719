/- block.Signature's Check: its loop. -/
import Derived.Test.YtheambpddpfcfaaDoorKh
import Derived.Test.YtheambpddpfcfaaDoorRw
import Derived.Test.YtheambpddpfcfaaDoorKg
import Derived.StillTailTactics
namespace Go.Proofs.YtheambpddpfcfaaDoor.Ki
set_option linter.unusedVariables false
set_option linter.unusedSimpArgs false
set_option maxRecDepth 100000
open Go.ChangeShapes Go.WideShapes Go.ChangeAt Go.RowKit
open Go.Proofs.YtheambpddpfcfaaDoor.Wu Go.Proofs.YtheambpddpfcfaaDoor.Sm Go.Proofs.YtheambpddpfcfaaDoor.Sh Go.Proofs.YtheambpddpfcfaaDoor.Ba Go.Proofs.YtheambpddpfcfaaDoor.Bp Go.Proofs.YtheambpddpfcfaaDoor.Ka Go.Proofs.YtheambpddpfcfaaDoor.Kb Go.Proofs.YtheambpddpfcfaaDoor.Kc Go.Proofs.YtheambpddpfcfaaDoor.Kd Go.Proofs.YtheambpddpfcfaaDoor.Ke Go.Proofs.YtheambpddpfcfaaDoor.Rk Go.Proofs.YtheambpddpfcfaaDoor.Rw Go.Proofs.YtheambpddpfcfaaDoor.Rb1 Go.Proofs.YtheambpddpfcfaaDoor.Kg Go.Proofs.YtheambpddpfcfaaDoor.Kh
open Go.Proofs.YtheambpddpfcfaaDoor.Su (cutL Cnt)
attribute [local go_sem] kUpon_value kUpon_skip kUpon_enter
set_option maxHeartbeats 3200000 in
theorem check_full (w : World) (sz len : Int) (k : Nat) (a : Option Addr) (m c : Nat) (bs : List Blk) (hb : IsBks .u32 w (.slice a m c) bs) (hml : m = bs.length) (h : fitsE sz k len = 0) (hn : cntZ len sz = (m : Int)) :
    Calls Tryd.prog 22 #[sigV sz k len (.slice a m c)] w fun e w' => e = .returned (.int .i64 (checkE sz k len bs)) ∧ Below w.heap.size w w' := by
  have hz := fitsE_zero h
  have hk : k ≤ 32 := by omega
  have hl : len ≤ 9223372036854775807 := by omega
  have hm4 : m ≤ 4096 := by omega
  unfold checkE
  rw [if_neg (by rw [h]; simp), if_neg (by rw [← hml, hn]; simp)]
  have HC := hide (fits_c (w.alloc (.cells #[.int .i64 sz, .int .i64 (k : Int), .int .i64 len, .slice a m c] 26)) sz k len (.slice a m c) rfl hl)
  have HN := hide (fun u : World => count_c u len sz hl)
  have HB := hide (below_new w (.cells #[.int .i64 sz, .int .i64 (k : Int), .int .i64 len, .slice a m c] 26))
  have HS := hide (heap_last w (.cells #[.int .i64 sz, .int .i64 (k : Int), .int .i64 len, .slice a m c] 26))
  rw [h] at HC
  rw [hn] at HN
  obtain ⟨a', c', g, off, hv, hmc, hcm, ha, hat⟩ := hb.at
  rw [← hml] at hv hmc ha
  injection hv with h1 h2 h3
  subst h1 h3
  have Hat := hide hat
  have HML := hide hml
  rw [Int.toNat_natCast]
  obtain ⟨R, hR⟩ : ∃ R : Int, R = if ∀ b ∈ bs, Blk.clean k b then 0 else 31 := ⟨_, rfl⟩
  rw [← hR]
  have HRv := hide hR
  clear hR
  clear h hz hn hat hml h2 hb
  unfold sigV at HC ⊢
  go_enter Tryd.func22, Tryd.ntmps22
  go_wp2_with fail
  generalize (w.alloc (.cells #[.int .i64 sz, .int .i64 (k : Int), .int .i64 len, .slice a m c] 26)) = w1 at *
  refine HC.out.mono ?_
  rintro e w2 ⟨rfl, hb2⟩
  have HB2 := hide (keepB hb2 (Nat.le_refl _) HB.out)
  have HS2 := hide (below_blk hb2 (heap_lt HS.out) HS.out)
  clear hb2 HB HC HS
  go_wp2_with fail
  refine wp_region_keep (fun u => u.heap[w.heap.size]? = some (.cells #[.int .i64 sz, .int .i64 (k : Int), .int .i64 len, .slice a m c] 26 (0, 0)) ∧ Below w.heap.size w u) (by kernel_rfl) (by kernel_rfl) ⟨HS2.out, HB2.out.drew⟩ ?_
  repeat (first
    | (refine keep_step (v := ?_) (by rfl) (fun u K hS hK => ?_) ?_
       rotate_left
       · obtain ⟨c0, c1, c2, c3⟩ := Sig4.cells (T := 26) hS.1
         (go_simp; first
           | (go_at_call 31; refine (HN.out _).mono ?_; rintro e u2 ⟨rfl, rfl⟩; exact hK _ hS)
           | (with_reducible exact hK _ hS))
       simp only [Act.put, List.setIfInBounds_toArray, List.set_cons_zero, List.set_cons_succ]))
  refine keep_nil (fun w3 hS3 => ?_)
  have HS3 := hide hS3
  clear hS3 HB2 HS2 HN
  obtain ⟨c0, c1, c2, c3⟩ := Sig4.cells (T := 26) HS3.out.1
  go_wp2_with fail
  clear c0 c1 c2 c3
  go_loopw [24] (fun j wr => ∃ i, j = .int .i64 ((i : Nat) : Int) ∧ i ≤ m ∧ (∀ b ∈ bs.take i, Blk.clean k b) ∧ wr.heap[w.heap.size]? = some (.cells #[.int .i64 sz, .int .i64 (k : Int), .int .i64 len, .slice a m c] 26 (0, 0)) ∧ Below w.heap.size w wr) (fun j _ => m - (intOf j).toNat)
  case atStart => exact ⟨0, rfl, Nat.zero_le _, by simp, HS3.out.1, HS3.out.2⟩
  case round =>
    clear HS3
    obtain ⟨i, rfl, hi, hcl, hS, hB⟩ := hrel
    have HS := hide hS
    have HB := hide hB
    have HCl := hide hcl
    clear hS hB hcl
    by_cases hlt : i < m
    · obtain ⟨b, hb⟩ : ∃ b, bs[i]? = some b := ⟨bs[i]'(by rw [← HML.out]; exact hlt), by rw [List.getElem?_eq_getElem]⟩
      obtain ⟨hbok, hr0⟩ := Hat.out i b hb
      have HR := hide (fun u (hu : Below w.heap.size w u) => range_below hr0 hu)
      have ha1 := ha (by omega)
      subst ha1
      have Hb := hide hb
      clear hr0 hb
      have d1 : decide ((i : Int) < (m : Int)) = true := by simpa using hlt
      have i1 : (0 : Int) ≤ (i : Int) := by omega
      have i2 : (i : Int) < (m : Int) := by omega
      have hsz : (blkC .u32 b).length = 33 := blkC_length hbok
      go_wp2_with (first
        | (refine wpList_load_part rfl 63 (.tmp 26) rfl g (off + i * 33) (blkC .u32 b) rfl (HR.out _ HB.out) _ Tryd.underlying63 rfl (by rw [hsz]; kernel_rfl) ?_)
        | (refine wpList_store_all rfl 63 (.tmp 5) (.tmp 27) rfl wr.heap.size (blkC .u32 b).toArray _ 63 rfl rfl (heap_last _ _) (by rw [List.size_toArray, hsz]; rfl) (by rw [List.size_toArray, hsz]; kernel_rfl) (all_oneCell_toArray (blkC_one _ _)) ?_))
      intro w5 H5 HG5
      refine of_hid ?_
      have HBr := hide (keepB (below_new wr (.cells (blkC .u32 ⟨0, zeros 32⟩).toArray 63)) (Nat.le_refl _) HB.out)
      have hwr := HB.out.size
      have hlS := heap_lt HS.out
      have HS5 := hide (keepG HG5.out (by omega) (heap_old HS.out _))
      have HB5 := hide (belowG HBr.out HG5.out hwr HBr.out.size)
      have hl5 := heap_lt H5.out
      clear HS HB HBr HG5 HR
      have c0 : w5.cell? ⟨wr.heap.size, 0, none⟩ = some (.int .u32 (b.w : Int)) := blk_cell H5.out rfl
      generalize wr.heap.size = B at *
      have hz33 : (blkC .u32 ⟨b.w, zeros 32⟩).length = 33 := by simp [blkC, b8_length, zeros_length]
      go_wp2_with (first
        | (refine wpList_build_at rfl 63 _ rfl [(0, .int .u32 (b.w : Int))] rfl _ (built_w b.w) ?_)
        | (refine wpList_store_all rfl 63 (.tmp 6) (.tmp 30) rfl w5.heap.size (blkC .u32 ⟨b.w, zeros 32⟩).toArray _ 63 rfl rfl (heap_last _ _) (by rw [List.size_toArray, hz33]; rfl) (by rw [List.size_toArray, hz33]; kernel_rfl) (all_oneCell_toArray (blkC_one _ _)) ?_))
      intro w6 H6 HG6
      refine of_hid ?_
      have HBr := hide (keepB (below_new w5 (.cells (blkC .u32 ⟨0, zeros 32⟩).toArray 63)) (Nat.le_refl _) HB5.out)
      have hw5 := HB5.out.size
      have hlS5 := heap_lt HS5.out
      have HS6 := hide (keepG HG6.out (by omega) (heap_old HS5.out _))
      have H5' := hide (keepG HG6.out (by omega) (heap_old H5.out _))
      have HB6 := hide (belowG HBr.out HG6.out hw5 HBr.out.size)
      have hl6 := heap_lt H6.out
      clear HS5 HB5 HBr HG6 H5 c0
      have hCB : w5.heap.size ≠ B := by omega
      have hCw : w.heap.size ≤ w5.heap.size := hw5
      have hCS : w5.heap.size ≠ w.heap.size := by omega
      generalize w5.heap.size = C at *
      have hsa := fun v : World => sliceAllAt v B 1
      have hs0 := fun v : World => sliceHAt v C 1 k hk
      obtain ⟨c0, c1, c2, c3⟩ := Sig4.cells (T := 26) HS6.out
      go_wp2_with fail
      go_still_tail 6, (by kernel_rfl)
      have hbl : (b8 (b.s.take k)).length = k := by rw [b8_length, List.length_take, hbok.2.1, Nat.min_eq_left hk]
      refine wpList_copy_own rfl (.tmp 34) (.tmp 36) 22 22 rfl 5 Tryd.underlying22 info_u8s C 1 k 32 ⟨B, 1, none⟩ 32 32 rfl rfl (blkC .u32 ⟨b.w, zeros 32⟩).toArray 63 H6.out (b8 (b.s.take k)) ?_ ?_ ?_ (b8_one _) ?_
      · rw [hbl]; exact (Nat.min_eq_right hk).symm
      · intro j v hv
        obtain ⟨hj, rfl⟩ := b8_at hv
        rw [List.length_take, hbok.2.1] at hj
        rw [Addr.add_mid]
        show w6.drew.cell? _ = _
        refine blk_cell H5'.out ?_
        simp only [blkC, List.getElem?_toArray, Nat.add_comm 1 j, List.getElem?_cons_succ]
        unfold b8
        rw [List.getElem?_map, List.getElem?_eq_getElem (by rw [hbok.2.1]; omega)]
        simp [List.getD, List.getElem?_take_of_lt (show j < k by omega), List.getElem?_eq_getElem (show j < b.s.length by rw [hbok.2.1]; omega)]
      · rw [hbl, List.size_toArray, hz33]; omega
      rw [cut_row .u32 k b.w b.s hk hbok.2.1, hbl]
      show wpList _ _ _ _ (Act.put _ _ (goInt k)) (w6.drew.setRow C (blkC .u32 ⟨b.w, cutL k b.s⟩).toArray)
      have HS7 := hide ((setRow_other w6.drew C _ (blkC .u32 ⟨b.w, cutL k b.s⟩).toArray (fun e => hCS e.symm)).trans HS6.out)
      have H7 := hide (setRow_heap w6.drew C _ (blkC .u32 ⟨b.w, cutL k b.s⟩).toArray _ _ H6.out)
      have H57 := hide ((setRow_other w6.drew C _ (blkC .u32 ⟨b.w, cutL k b.s⟩).toArray (fun e => hCB e.symm)).trans H5'.out)
      have HB7 := hide (below_setRow (g := C) HB6.out.drew hCw (blkC .u32 ⟨b.w, cutL k b.s⟩).toArray)
      have hcok : Blk.ok ⟨b.w, cutL k b.s⟩ := ⟨hbok.1, Su.cutL_length k _ hk hbok.2.1, all8_sub hbok.2.2 k (32 - k)⟩
      have hq := fun u => blk_eq b ⟨b.w, cutL k b.s⟩ hbok hcok u
      have hc33 : (blkC .u32 ⟨b.w, cutL k b.s⟩).length = 33 := blkC_length hcok
      have hcl : decide (b = ⟨b.w, cutL k b.s⟩) = decide (Blk.clean k b) := by
        unfold Blk.clean
        cases b
        simp
      rw [hcl] at hq
      clear hsa hs0 c0 c1 c2 c3 HS6 H6 H5' HB6 hcl hbl
      generalize (w6.drew.setRow C (blkC .u32 ⟨b.w, cutL k b.s⟩).toArray) = w7 at *
      generalize (⟨b.w, cutL k b.s⟩ : Blk) = b7 at *
      have hm : Tryd.prog.eqGuardType Tryd.prog.depth 63 = false := by kernel_rfl
      by_cases hclean : Blk.clean k b
      · have e1 : decide (Blk.clean k b) = true := by simpa using hclean
        have Hclean := hide hclean
        rw [e1] at hq
        clear hclean e1
        go_wp2_with (first
          | (refine wpList_load_all rfl 63 (.tmp 5) rfl B (blkC .u32 b).toArray 63 (0, 0) rfl H57.out _ Tryd.underlying63 rfl (by rw [List.size_toArray, hsz]; kernel_rfl) ?_)
          | (refine wpList_load_all rfl 63 (.tmp 6) rfl C (blkC .u32 b7).toArray 63 (0, 0) rfl H7.out _ Tryd.underlying63 rfl (by rw [List.size_toArray, hc33]; kernel_rfl) ?_))
        go_roundw
        case rel =>
          refine ⟨i + 1, by go_num, by omega, ?_, HS7.out, HB7.out⟩
          intro x hx
          rw [List.take_add_one, Hb.out] at hx
          rcases List.mem_append.1 hx with hx | hx
          · exact HCl.out x hx
          · simp at hx; rw [hx]; exact Hclean.out
        case measure => simp [intOf]; omega
      · have e1 : decide (Blk.clean k b) = false := by simpa using hclean
        have Hno : Hid ((if ∀ b ∈ bs, Blk.clean k b then (0 : Int) else 31) = 31) := hide (if_neg (fun h => hclean (h b (List.mem_of_getElem? Hb.out))))
        rw [e1] at hq
        clear hclean e1
        go_wp2_with (first
          | (refine wpList_load_all rfl 63 (.tmp 5) rfl B (blkC .u32 b).toArray 63 (0, 0) rfl H57.out _ Tryd.underlying63 rfl (by rw [List.size_toArray, hsz]; kernel_rfl) ?_)
          | (refine wpList_load_all rfl 63 (.tmp 6) rfl C (blkC .u32 b7).toArray 63 (0, 0) rfl H7.out _ Tryd.underlying63 rfl (by rw [List.size_toArray, hc33]; kernel_rfl) ?_))
        go_ret
        exact ⟨by rw [show R = 31 from HRv.out.trans Hno.out]; rfl, HB7.out⟩
    · obtain rfl : i = m := by omega
      have Hyes : Hid ((if ∀ b ∈ bs, Blk.clean k b then (0 : Int) else 31) = 0) := hide (if_pos (fun b hb => HCl.out b (by rw [List.take_of_length_le (by rw [← HML.out]; exact Nat.le_refl _)]; exact hb)))
      have d1 : decide ((i : Int) < (i : Int)) = false := by simp
      clear ha hi HCl Hat
      go_wp2
      go_ret
      exact ⟨by rw [show R = 0 from HRv.out.trans Hyes.out]; rfl, HB.out⟩
/-- Check, whatever comes. -/
theorem check_c (w : World) (sz cut len : Int) (v : Value) (bs : List Blk) (hb : IsBks .u32 w v bs) (hl : len ≤ 9223372036854775807) (hbl : bs.length ≤ 9223372036854775807) :
    Calls Tryd.prog 22 #[sigV sz cut len v] w fun e w' => e = .returned (.int .i64 (checkE sz cut len bs)) ∧ Below w.heap.size w w' := by
  obtain ⟨a, c, g, off, rfl, hmc, hcm, _⟩ := hb.at
  by_cases h : fitsE sz cut len = 0
  · have hz := fitsE_zero h
    obtain ⟨k, rfl⟩ := Int.eq_ofNat_of_zero_le (show 0 ≤ cut by omega)
    by_cases hn : cntZ len sz = (bs.length : Int)
    · exact check_full w sz len k a bs.length c bs hb rfl h hn
    · exact check_len w sz k len a bs.length c bs rfl hl hbl h (fun e => hn e.symm)
  · exact check_bad w sz cut len _ bs rfl hl h
end Go.Proofs.YtheambpddpfcfaaDoor.Ki
