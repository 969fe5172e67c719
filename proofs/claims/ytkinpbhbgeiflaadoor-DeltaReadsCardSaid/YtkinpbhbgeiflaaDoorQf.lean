/- Several texts, one behind the other. -/
import Derived.Test.YtkinpbhbgeiflaaDoorQe
import Derived.StillTailTactics
import Derived.Maps.Keyed
import Derived.Maps.Range
import Derived.OwnWalk
import Derived.Below
import Derived.Test.YtkinpbhbgeiflaaDoorQc
/- Blocks built, and laid into a slice of one. -/
namespace Go.Proofs.YtkinpbhbgeiflaaDoor.Kg
set_option linter.unusedVariables false
set_option linter.unusedSimpArgs false
set_option maxRecDepth 100000
open Go.ChangeShapes Go.WideShapes Go.ChangeAt Go.RowKit
open Go.Proofs.YtkinpbhbgeiflaaDoor.Wu Go.Proofs.YtkinpbhbgeiflaaDoor.Sm Go.Proofs.YtkinpbhbgeiflaaDoor.Sh Go.Proofs.YtkinpbhbgeiflaaDoor.Ba Go.Proofs.YtkinpbhbgeiflaaDoor.Bp Go.Proofs.YtkinpbhbgeiflaaDoor.Ka Go.Proofs.YtkinpbhbgeiflaaDoor.Kb Go.Proofs.YtkinpbhbgeiflaaDoor.Kc Go.Proofs.YtkinpbhbgeiflaaDoor.Kd Go.Proofs.YtkinpbhbgeiflaaDoor.Rb1
theorem fill_blk (q : IntKind) (x : Nat) (s : List Nat) (hs : s.length = 32) : Instr.fill (([(0, 1), (1, 32)] : List (Nat × Nat)).toArray[·]?) (blkC q ⟨0, zeros 32⟩).toArray [(0, .int q (x : Int)), (1, .agg (u8s s))] = some (blkC q ⟨x, s⟩).toArray := by
  have h0 : (blkC q ⟨0, zeros 32⟩).length = 33 := by simp [blkC, b8_length, zeros_length]
  rw [fill_step _ _ [.int q (x : Int)] 0 0 1 _ _ rfl rfl rfl (by omega)]
  have h1 : (spl (blkC q ⟨0, zeros 32⟩) 0 [.int q (x : Int)]).length = 33 := by rw [spl_length _ _ _ (by simp; omega)]; exact h0
  rw [fill_step _ _ (b8 s) 1 1 32 _ _ rfl (by rw [← u8s_b8]; rfl) (by rw [b8_length, hs]) (by omega), fill_nil]
  congr 2
  simp [spl, blkC, b8_length, hs, zeros_length]
theorem zero_blk : (Tryd.prog.info? 116).bind (·.zero) = some (blkV .u32 ⟨0, zeros 32⟩) := by kernel_rfl
theorem zero_ref : (Tryd.prog.info? 133).bind (·.zero) = some (blkV .i64 ⟨0, zeros 32⟩) := by kernel_rfl
theorem built_blk (x : Nat) (s : List Nat) (hs : s.length = 32) : Tryd.prog.built 116 [(0, .int .u32 (x : Int)), (1, .agg (u8s s))] = some (blkC .u32 ⟨x, s⟩).toArray :=
  built_struct 116 _ _ _ [(0, 1), (1, 32)] (blkC .u32 ⟨0, zeros 32⟩) zero_blk Tryd.underlying116 (by kernel_rfl) rfl _ (fill_blk .u32 x s hs)
theorem built_ref (x : Nat) (s : List Nat) (hs : s.length = 32) : Tryd.prog.built 133 [(0, .int .i64 (x : Int)), (1, .agg (u8s s))] = some (blkC .i64 ⟨x, s⟩).toArray :=
  built_struct 133 _ _ _ [(0, 1), (1, 32)] (blkC .i64 ⟨0, zeros 32⟩) zero_ref Tryd.underlying133 (by kernel_rfl) rfl _ (fill_blk .i64 x s hs)
theorem one_blk (u : World) (b : Blk) (hb : b.ok) : (Instr.buildSlice 48 1 #[(0, blkV .u32 b)]).run Tryd.prog u = .ok (.slice (some ⟨u.heap.size, 0, none⟩) 1 1) (u.alloc (.cells (blkC .u32 b).toArray 116)) := by
  obtain ⟨i0, hi0, hz0, hz1, hz2⟩ := info_parts info_blk
  exact run_slice_one u 48 116 (blkV .u32 b) (blkC .u32 b) i0 _ 33 Tryd.underlying48 hi0 hz0 hz1 (by omega) (by omega) rfl (blkC_length hb)
theorem one_ref (u : World) (b : Blk) (hb : b.ok) : (Instr.buildSlice 59 1 #[(0, blkV .i64 b)]).run Tryd.prog u = .ok (.slice (some ⟨u.heap.size, 0, none⟩) 1 1) (u.alloc (.cells (blkC .i64 b).toArray 133)) := by
  obtain ⟨i0, hi0, hz0, hz1, hz2⟩ := info_parts info_ref
  exact run_slice_one u 59 133 (blkV .i64 b) (blkC .i64 b) i0 _ 33 Tryd.underlying59 hi0 hz0 hz1 (by omega) (by omega) rfl (blkC_length hb)
end Go.Proofs.YtkinpbhbgeiflaaDoor.Kg
/- block.Signature's Check. -/
namespace Go.Proofs.YtkinpbhbgeiflaaDoor.Kh
set_option linter.unusedVariables false
set_option linter.unusedSimpArgs false
set_option maxRecDepth 100000
open Go.ChangeShapes Go.WideShapes Go.ChangeAt Go.RowKit
open Go.Proofs.YtkinpbhbgeiflaaDoor.Wu Go.Proofs.YtkinpbhbgeiflaaDoor.Sm Go.Proofs.YtkinpbhbgeiflaaDoor.Sh Go.Proofs.YtkinpbhbgeiflaaDoor.Ba Go.Proofs.YtkinpbhbgeiflaaDoor.Bp Go.Proofs.YtkinpbhbgeiflaaDoor.Ka Go.Proofs.YtkinpbhbgeiflaaDoor.Kb Go.Proofs.YtkinpbhbgeiflaaDoor.Kc Go.Proofs.YtkinpbhbgeiflaaDoor.Kd Go.Proofs.YtkinpbhbgeiflaaDoor.Ke Go.Proofs.YtkinpbhbgeiflaaDoor.Rk Go.Proofs.YtkinpbhbgeiflaaDoor.Rw Go.Proofs.YtkinpbhbgeiflaaDoor.Rb1 Go.Proofs.YtkinpbhbgeiflaaDoor.Kg
open Go.Proofs.YtkinpbhbgeiflaaDoor.Su (cutL Cnt)
attribute [local go_sem] kUpon_value kUpon_skip kUpon_enter
/-- Nothing counts behind the cut. -/
def Blk.clean (k : Nat) (b : Blk) : Prop := b.s = cutL k b.s
instance (k : Nat) (b : Blk) : Decidable (Blk.clean k b) := by unfold Blk.clean; infer_instance
/-- Why these can't be a file's sums. -/
def checkE (sz cut len : Int) (bs : List Blk) : Int := if fitsE sz cut len ≠ 0 then fitsE sz cut len else if (bs.length : Int) ≠ cntZ len sz then 31 else if ∀ b ∈ bs, Blk.clean cut.toNat b then 0 else 31
theorem check_bad (w : World) (sz cut len : Int) (v : Value) (bs : List Blk) (hv1 : v.oneCell' = true) (hl : len ≤ 9223372036854775807) (h : fitsE sz cut len ≠ 0) :
    Calls Tryd.prog 48 #[sigV sz cut len v] w fun e w' => e = .returned (.int .i64 (checkE sz cut len bs)) ∧ Below w.heap.size w w' := by
  unfold checkE
  rw [if_pos h]
  have HC := hide (fits_c (w.alloc (.cells #[.int .i64 sz, .int .i64 cut, .int .i64 len, v] 50)) sz cut len v hv1 hl)
  have HB := hide (below_new w (.cells #[.int .i64 sz, .int .i64 cut, .int .i64 len, v] 50))
  have hb : (fitsE sz cut len != 0) = true := by simpa using h
  generalize fitsE sz cut len = z at *
  clear h hl
  unfold sigV at HC ⊢
  go_enter Tryd.func48, Tryd.ntmps48
  go_wp2_with fail
  generalize (w.alloc (.cells #[.int .i64 sz, .int .i64 cut, .int .i64 len, v] 50)) = w1 at *
  refine HC.out.mono ?_
  rintro e w2 ⟨rfl, hb2⟩
  have HB2 := hide (keepB hb2 (Nat.le_refl _) HB.out)
  clear hb2 HB HC
  go_wp2
  go_ret
  exact ⟨rfl, HB2.out⟩
theorem check_len (w : World) (sz cut len : Int) (a : Option Addr) (m c : Nat) (bs : List Blk) (hm : m = bs.length) (hl : len ≤ 9223372036854775807) (hmm : m ≤ 9223372036854775807) (h : fitsE sz cut len = 0) (hn : (m : Int) ≠ cntZ len sz) :
    Calls Tryd.prog 48 #[sigV sz cut len (.slice a m c)] w fun e w' => e = .returned (.int .i64 (checkE sz cut len bs)) ∧ Below w.heap.size w w' := by
  unfold checkE
  rw [if_neg (by rw [h]; simp), if_pos (by rw [← hm]; exact hn)]
  clear hm
  have HC := hide (fits_c (w.alloc (.cells #[.int .i64 sz, .int .i64 cut, .int .i64 len, .slice a m c] 50)) sz cut len (.slice a m c) rfl hl)
  have HN := hide (fun u : World => count_c u len sz hl)
  have HB := hide (below_new w (.cells #[.int .i64 sz, .int .i64 cut, .int .i64 len, .slice a m c] 50))
  have HS := hide (heap_last w (.cells #[.int .i64 sz, .int .i64 cut, .int .i64 len, .slice a m c] 50))
  rw [h] at HC
  generalize cntZ len sz = n at *
  have e1 : ((m : Int) != n) = true := by simpa using hn
  clear h hl hn
  unfold sigV at HC ⊢
  go_enter Tryd.func48, Tryd.ntmps48
  go_wp2_with fail
  generalize (w.alloc (.cells #[.int .i64 sz, .int .i64 cut, .int .i64 len, .slice a m c] 50)) = w1 at *
  refine HC.out.mono ?_
  rintro e w2 ⟨rfl, hb2⟩
  have HB2 := hide (keepB hb2 (Nat.le_refl _) HB.out)
  have HS2 := hide (below_blk hb2 (heap_lt HS.out) HS.out)
  clear hb2 HB HC HS
  go_wp2_with fail
  refine wp_region_keep (fun u => u.heap[w.heap.size]? = some (.cells #[.int .i64 sz, .int .i64 cut, .int .i64 len, .slice a m c] 50 (0, 0)) ∧ Below w.heap.size w u) (by kernel_rfl) (by kernel_rfl) ⟨HS2.out, HB2.out.drew⟩ ?_
  repeat (first
    | (refine keep_step (v := ?_) (by rfl) (fun u K hS hK => ?_) ?_
       rotate_left
       · obtain ⟨c0, c1, c2, c3⟩ := Sig4.cells (T := 50) hS.1
         (go_simp; first
           | (go_at_call 43; refine (HN.out _).mono ?_; rintro e u2 ⟨rfl, rfl⟩; exact hK _ hS)
           | (with_reducible exact hK _ hS))
       simp only [Act.put, List.setIfInBounds_toArray, List.set_cons_zero, List.set_cons_succ]))
  refine keep_nil (fun w3 hS3 => ?_)
  have HB3 := hide hS3.2
  clear hS3
  go_wp2
  go_ret
  exact ⟨rfl, HB3.out⟩
theorem built_w (x : Nat) : Tryd.prog.built 116 [(0, .int .u32 (x : Int))] = some (blkC .u32 ⟨x, zeros 32⟩).toArray := by
  refine built_struct 116 _ _ _ [(0, 1), (1, 32)] (blkC .u32 ⟨0, zeros 32⟩) zero_blk Tryd.underlying116 (by kernel_rfl) rfl _ ?_
  have h0 : (blkC .u32 ⟨0, zeros 32⟩).length = 33 := by simp [blkC, b8_length, zeros_length]
  rw [fill_step _ _ [.int .u32 (x : Int)] 0 0 1 _ _ rfl rfl rfl (by omega), fill_nil]
  rfl
theorem sliceAllAt (u : World) (B o : Nat) :
    Sem.run Tryd.prog (Instr.sliceAt 84 (.pointer (some ⟨B, o, none⟩)) none none none) u = .ok (.slice (some ⟨B, o, none⟩) 32 32) u := by
  rw [run_sliceAt_array_all u 84 ⟨B, o, none⟩ (by rw [Sf.alenS, Sf.aelemS]; exact Tryd.underlying84), Sf.aelemS, size_u8, Sf.alenS]
  simp only [Result.andThen, slicedAt, Nat.mul_one]
  rw [if_neg (by omega), Addr.add_mid, Nat.add_zero]
theorem sliceHAt (u : World) (B o k : Nat) (hk : k ≤ 32) :
    Sem.run Tryd.prog (Instr.sliceAt 84 (.pointer (some ⟨B, o, none⟩)) none (some (.int .i64 (k : Int))) none) u = .ok (.slice (some ⟨B, o, none⟩) k 32) u := by
  rw [run_sliceAt_array_h u 84 ⟨B, o, none⟩ (by rw [Sf.alenS, Sf.aelemS]; exact Tryd.underlying84) .i64 _ (by omega) (by rw [Sf.alenS]; omega), Sf.aelemS, size_u8, Sf.alenS]
  simp only [Result.andThen, slicedAt, Int.toNat_natCast, Nat.mul_one]
  rw [if_neg (by omega), Addr.add_mid]
  simp
theorem cut_row (q : IntKind) (k x : Nat) (s : List Nat) (hk : k ≤ 32) (hs : s.length = 32) : ((blkC q ⟨x, zeros 32⟩).toArray.toList.take 1 ++ (b8 (s.take k) ++ (blkC q ⟨x, zeros 32⟩).toArray.toList.drop (1 + (b8 (s.take k)).length))).toArray = (blkC q ⟨x, cutL k s⟩).toArray := by
  have h1 : (b8 (s.take k)).length = k := by rw [b8_length, List.length_take, hs, Nat.min_eq_left hk]
  have h2 : (b8 (zeros 32)).drop k = b8 (zeros (32 - k)) := by unfold b8 zeros; rw [← List.map_drop, List.drop_replicate]
  have h3 : b8 (cutL k s) = b8 (s.take k) ++ b8 (zeros (32 - k)) := by unfold cutL b8; rw [List.map_append]; rfl
  have h4 : (blkC q ⟨x, zeros 32⟩).toArray.toList = .int q (x : Int) :: b8 (zeros 32) := rfl
  have h5 : blkC q ⟨x, cutL k s⟩ = .int q (x : Int) :: b8 (cutL k s) := rfl
  rw [h1, h4, h5, h3, Nat.add_comm 1 k, List.drop_succ_cons, h2, List.take_succ_cons, List.take_zero]
  simp only [List.cons_append, List.nil_append]
end Go.Proofs.YtkinpbhbgeiflaaDoor.Kh
/- block.Signature's Check: its loop. -/
namespace Go.Proofs.YtkinpbhbgeiflaaDoor.Ki
set_option linter.unusedVariables false
set_option linter.unusedSimpArgs false
set_option maxRecDepth 100000
open Go.ChangeShapes Go.WideShapes Go.ChangeAt Go.RowKit
open Go.Proofs.YtkinpbhbgeiflaaDoor.Wu Go.Proofs.YtkinpbhbgeiflaaDoor.Sm Go.Proofs.YtkinpbhbgeiflaaDoor.Sh Go.Proofs.YtkinpbhbgeiflaaDoor.Ba Go.Proofs.YtkinpbhbgeiflaaDoor.Bp Go.Proofs.YtkinpbhbgeiflaaDoor.Ka Go.Proofs.YtkinpbhbgeiflaaDoor.Kb Go.Proofs.YtkinpbhbgeiflaaDoor.Kc Go.Proofs.YtkinpbhbgeiflaaDoor.Kd Go.Proofs.YtkinpbhbgeiflaaDoor.Ke Go.Proofs.YtkinpbhbgeiflaaDoor.Rk Go.Proofs.YtkinpbhbgeiflaaDoor.Rw Go.Proofs.YtkinpbhbgeiflaaDoor.Rb1 Go.Proofs.YtkinpbhbgeiflaaDoor.Kg Go.Proofs.YtkinpbhbgeiflaaDoor.Kh
open Go.Proofs.YtkinpbhbgeiflaaDoor.Su (cutL Cnt)
attribute [local go_sem] kUpon_value kUpon_skip kUpon_enter
set_option maxHeartbeats 3200000 in
theorem check_full (w : World) (sz len : Int) (k : Nat) (a : Option Addr) (m c : Nat) (bs : List Blk) (hb : IsBks .u32 w (.slice a m c) bs) (hml : m = bs.length) (h : fitsE sz k len = 0) (hn : cntZ len sz = (m : Int)) :
    Calls Tryd.prog 48 #[sigV sz k len (.slice a m c)] w fun e w' => e = .returned (.int .i64 (checkE sz k len bs)) ∧ Below w.heap.size w w' := by
  have hz := fitsE_zero h
  have hk : k ≤ 32 := by omega
  have hl : len ≤ 9223372036854775807 := by omega
  have hm4 : m ≤ 4096 := by omega
  unfold checkE
  rw [if_neg (by rw [h]; simp), if_neg (by rw [← hml, hn]; simp)]
  have HC := hide (fits_c (w.alloc (.cells #[.int .i64 sz, .int .i64 (k : Int), .int .i64 len, .slice a m c] 50)) sz k len (.slice a m c) rfl hl)
  have HN := hide (fun u : World => count_c u len sz hl)
  have HB := hide (below_new w (.cells #[.int .i64 sz, .int .i64 (k : Int), .int .i64 len, .slice a m c] 50))
  have HS := hide (heap_last w (.cells #[.int .i64 sz, .int .i64 (k : Int), .int .i64 len, .slice a m c] 50))
  rw [h] at HC
  rw [hn] at HN
  obtain ⟨a', c', g, off, hv, hmc, hcm, ha, hat⟩ := hb.at
  rw [← hml] at hv hmc ha
  injection hv with h1 h2 h3
  subst h1 h3
  have Hat := hide hat
  have HML := hide hml
  rw [Int.toNat_natCast]
  obtain ⟨R, hR⟩ : ∃ R : Int, R = if ∀ b ∈ bs, Blk.clean k b then 0 else 31 := ⟨_, rfl⟩
  rw [← hR]
  have HRv := hide hR
  clear hR
  clear h hz hn hat hml h2 hb
  unfold sigV at HC ⊢
  go_enter Tryd.func48, Tryd.ntmps48
  go_wp2_with fail
  generalize (w.alloc (.cells #[.int .i64 sz, .int .i64 (k : Int), .int .i64 len, .slice a m c] 50)) = w1 at *
  refine HC.out.mono ?_
  rintro e w2 ⟨rfl, hb2⟩
  have HB2 := hide (keepB hb2 (Nat.le_refl _) HB.out)
  have HS2 := hide (below_blk hb2 (heap_lt HS.out) HS.out)
  clear hb2 HB HC HS
  go_wp2_with fail
  refine wp_region_keep (fun u => u.heap[w.heap.size]? = some (.cells #[.int .i64 sz, .int .i64 (k : Int), .int .i64 len, .slice a m c] 50 (0, 0)) ∧ Below w.heap.size w u) (by kernel_rfl) (by kernel_rfl) ⟨HS2.out, HB2.out.drew⟩ ?_
  repeat (first
    | (refine keep_step (v := ?_) (by rfl) (fun u K hS hK => ?_) ?_
       rotate_left
       · obtain ⟨c0, c1, c2, c3⟩ := Sig4.cells (T := 50) hS.1
         (go_simp; first
           | (go_at_call 43; refine (HN.out _).mono ?_; rintro e u2 ⟨rfl, rfl⟩; exact hK _ hS)
           | (with_reducible exact hK _ hS))
       simp only [Act.put, List.setIfInBounds_toArray, List.set_cons_zero, List.set_cons_succ]))
  refine keep_nil (fun w3 hS3 => ?_)
  have HS3 := hide hS3
  clear hS3 HB2 HS2 HN
  obtain ⟨c0, c1, c2, c3⟩ := Sig4.cells (T := 50) HS3.out.1
  go_wp2_with fail
  clear c0 c1 c2 c3
  go_loopw [24] (fun j wr => ∃ i, j = .int .i64 ((i : Nat) : Int) ∧ i ≤ m ∧ (∀ b ∈ bs.take i, Blk.clean k b) ∧ wr.heap[w.heap.size]? = some (.cells #[.int .i64 sz, .int .i64 (k : Int), .int .i64 len, .slice a m c] 50 (0, 0)) ∧ Below w.heap.size w wr) (fun j _ => m - (intOf j).toNat)
  case atStart => exact ⟨0, rfl, Nat.zero_le _, by simp, HS3.out.1, HS3.out.2⟩
  case round =>
    clear HS3
    obtain ⟨i, rfl, hi, hcl, hS, hB⟩ := hrel
    have HS := hide hS
    have HB := hide hB
    have HCl := hide hcl
    clear hS hB hcl
    by_cases hlt : i < m
    · obtain ⟨b, hb⟩ : ∃ b, bs[i]? = some b := ⟨bs[i]'(by rw [← HML.out]; exact hlt), by rw [List.getElem?_eq_getElem]⟩
      obtain ⟨hbok, hr0⟩ := Hat.out i b hb
      have HR := hide (fun u (hu : Below w.heap.size w u) => range_below hr0 hu)
      have ha1 := ha (by omega)
      subst ha1
      have Hb := hide hb
      clear hr0 hb
      have d1 : decide ((i : Int) < (m : Int)) = true := by simpa using hlt
      have i1 : (0 : Int) ≤ (i : Int) := by omega
      have i2 : (i : Int) < (m : Int) := by omega
      have hsz : (blkC .u32 b).length = 33 := blkC_length hbok
      go_wp2_with (first
        | (refine wpList_load_part rfl 116 (.tmp 26) rfl g (off + i * 33) (blkC .u32 b) rfl (HR.out _ HB.out) _ Tryd.underlying116 rfl (by rw [hsz]; kernel_rfl) ?_)
        | (refine wpList_store_all rfl 116 (.tmp 5) (.tmp 27) rfl wr.heap.size (blkC .u32 b).toArray _ 116 rfl rfl (heap_last _ _) (by rw [List.size_toArray, hsz]; rfl) (by rw [List.size_toArray, hsz]; kernel_rfl) (all_oneCell_toArray (blkC_one _ _)) ?_))
      intro w5 H5 HG5
      refine of_hid ?_
      have HBr := hide (keepB (below_new wr (.cells (blkC .u32 ⟨0, zeros 32⟩).toArray 116)) (Nat.le_refl _) HB.out)
      have hwr := HB.out.size
      have hlS := heap_lt HS.out
      have HS5 := hide (keepG HG5.out (by omega) (heap_old HS.out _))
      have HB5 := hide (belowG HBr.out HG5.out hwr HBr.out.size)
      have hl5 := heap_lt H5.out
      clear HS HB HBr HG5 HR
      have c0 : w5.cell? ⟨wr.heap.size, 0, none⟩ = some (.int .u32 (b.w : Int)) := blk_cell H5.out rfl
      generalize wr.heap.size = B at *
      have hz33 : (blkC .u32 ⟨b.w, zeros 32⟩).length = 33 := by simp [blkC, b8_length, zeros_length]
      go_wp2_with (first
        | (refine wpList_build_at rfl 116 _ rfl [(0, .int .u32 (b.w : Int))] rfl _ (built_w b.w) ?_)
        | (refine wpList_store_all rfl 116 (.tmp 6) (.tmp 30) rfl w5.heap.size (blkC .u32 ⟨b.w, zeros 32⟩).toArray _ 116 rfl rfl (heap_last _ _) (by rw [List.size_toArray, hz33]; rfl) (by rw [List.size_toArray, hz33]; kernel_rfl) (all_oneCell_toArray (blkC_one _ _)) ?_))
      intro w6 H6 HG6
      refine of_hid ?_
      have HBr := hide (keepB (below_new w5 (.cells (blkC .u32 ⟨0, zeros 32⟩).toArray 116)) (Nat.le_refl _) HB5.out)
      have hw5 := HB5.out.size
      have hlS5 := heap_lt HS5.out
      have HS6 := hide (keepG HG6.out (by omega) (heap_old HS5.out _))
      have H5' := hide (keepG HG6.out (by omega) (heap_old H5.out _))
      have HB6 := hide (belowG HBr.out HG6.out hw5 HBr.out.size)
      have hl6 := heap_lt H6.out
      clear HS5 HB5 HBr HG6 H5 c0
      have hCB : w5.heap.size ≠ B := by omega
      have hCw : w.heap.size ≤ w5.heap.size := hw5
      have hCS : w5.heap.size ≠ w.heap.size := by omega
      generalize w5.heap.size = C at *
      have hsa := fun v : World => sliceAllAt v B 1
      have hs0 := fun v : World => sliceHAt v C 1 k hk
      obtain ⟨c0, c1, c2, c3⟩ := Sig4.cells (T := 50) HS6.out
      go_wp2_with fail
      go_still_tail 6, (by kernel_rfl)
      have hbl : (b8 (b.s.take k)).length = k := by rw [b8_length, List.length_take, hbok.2.1, Nat.min_eq_left hk]
      refine wpList_copy_own rfl (.tmp 34) (.tmp 36) 22 22 rfl 5 Tryd.underlying22 info_u8s C 1 k 32 ⟨B, 1, none⟩ 32 32 rfl rfl (blkC .u32 ⟨b.w, zeros 32⟩).toArray 116 H6.out (b8 (b.s.take k)) ?_ ?_ ?_ (b8_one _) ?_
      · rw [hbl]; exact (Nat.min_eq_right hk).symm
      · intro j v hv
        obtain ⟨hj, rfl⟩ := b8_at hv
        rw [List.length_take, hbok.2.1] at hj
        rw [Addr.add_mid]
        show w6.drew.cell? _ = _
        refine blk_cell H5'.out ?_
        simp only [blkC, List.getElem?_toArray, Nat.add_comm 1 j, List.getElem?_cons_succ]
        unfold b8
        rw [List.getElem?_map, List.getElem?_eq_getElem (by rw [hbok.2.1]; omega)]
        simp [List.getD, List.getElem?_take_of_lt (show j < k by omega), List.getElem?_eq_getElem (show j < b.s.length by rw [hbok.2.1]; omega)]
      · rw [hbl, List.size_toArray, hz33]; omega
      rw [cut_row .u32 k b.w b.s hk hbok.2.1, hbl]
      show wpList _ _ _ _ (Act.put _ _ (goInt k)) (w6.drew.setRow C (blkC .u32 ⟨b.w, cutL k b.s⟩).toArray)
      have HS7 := hide ((setRow_other w6.drew C _ (blkC .u32 ⟨b.w, cutL k b.s⟩).toArray (fun e => hCS e.symm)).trans HS6.out)
      have H7 := hide (setRow_heap w6.drew C _ (blkC .u32 ⟨b.w, cutL k b.s⟩).toArray _ _ H6.out)
      have H57 := hide ((setRow_other w6.drew C _ (blkC .u32 ⟨b.w, cutL k b.s⟩).toArray (fun e => hCB e.symm)).trans H5'.out)
      have HB7 := hide (below_setRow (g := C) HB6.out.drew hCw (blkC .u32 ⟨b.w, cutL k b.s⟩).toArray)
      have hcok : Blk.ok ⟨b.w, cutL k b.s⟩ := ⟨hbok.1, Su.cutL_length k _ hk hbok.2.1, all8_sub hbok.2.2 k (32 - k)⟩
      have hq := fun u => blk_eq b ⟨b.w, cutL k b.s⟩ hbok hcok u
      have hc33 : (blkC .u32 ⟨b.w, cutL k b.s⟩).length = 33 := blkC_length hcok
      have hcl : decide (b = ⟨b.w, cutL k b.s⟩) = decide (Blk.clean k b) := by
        unfold Blk.clean
        cases b
        simp
      rw [hcl] at hq
      clear hsa hs0 c0 c1 c2 c3 HS6 H6 H5' HB6 hcl hbl
      generalize (w6.drew.setRow C (blkC .u32 ⟨b.w, cutL k b.s⟩).toArray) = w7 at *
      generalize (⟨b.w, cutL k b.s⟩ : Blk) = b7 at *
      have hm : Tryd.prog.eqGuardType Tryd.prog.depth 116 = false := by kernel_rfl
      by_cases hclean : Blk.clean k b
      · have e1 : decide (Blk.clean k b) = true := by simpa using hclean
        have Hclean := hide hclean
        rw [e1] at hq
        clear hclean e1
        go_wp2_with (first
          | (refine wpList_load_all rfl 116 (.tmp 5) rfl B (blkC .u32 b).toArray 116 (0, 0) rfl H57.out _ Tryd.underlying116 rfl (by rw [List.size_toArray, hsz]; kernel_rfl) ?_)
          | (refine wpList_load_all rfl 116 (.tmp 6) rfl C (blkC .u32 b7).toArray 116 (0, 0) rfl H7.out _ Tryd.underlying116 rfl (by rw [List.size_toArray, hc33]; kernel_rfl) ?_))
        go_roundw
        case rel =>
          refine ⟨i + 1, by go_num, by omega, ?_, HS7.out, HB7.out⟩
          intro x hx
          rw [List.take_add_one, Hb.out] at hx
          rcases List.mem_append.1 hx with hx | hx
          · exact HCl.out x hx
          · simp at hx; rw [hx]; exact Hclean.out
        case measure => simp [intOf]; omega
      · have e1 : decide (Blk.clean k b) = false := by simpa using hclean
        have Hno : Hid ((if ∀ b ∈ bs, Blk.clean k b then (0 : Int) else 31) = 31) := hide (if_neg (fun h => hclean (h b (List.mem_of_getElem? Hb.out))))
        rw [e1] at hq
        clear hclean e1
        go_wp2_with (first
          | (refine wpList_load_all rfl 116 (.tmp 5) rfl B (blkC .u32 b).toArray 116 (0, 0) rfl H57.out _ Tryd.underlying116 rfl (by rw [List.size_toArray, hsz]; kernel_rfl) ?_)
          | (refine wpList_load_all rfl 116 (.tmp 6) rfl C (blkC .u32 b7).toArray 116 (0, 0) rfl H7.out _ Tryd.underlying116 rfl (by rw [List.size_toArray, hc33]; kernel_rfl) ?_))
        go_ret
        exact ⟨by rw [show R = 31 from HRv.out.trans Hno.out]; rfl, HB7.out⟩
    · obtain rfl : i = m := by omega
      have Hyes : Hid ((if ∀ b ∈ bs, Blk.clean k b then (0 : Int) else 31) = 0) := hide (if_pos (fun b hb => HCl.out b (by rw [List.take_of_length_le (by rw [← HML.out]; exact Nat.le_refl _)]; exact hb)))
      have d1 : decide ((i : Int) < (i : Int)) = false := by simp
      clear ha hi HCl Hat
      go_wp2
      go_ret
      exact ⟨by rw [show R = 0 from HRv.out.trans Hyes.out]; rfl, HB.out⟩
/-- Check, whatever comes. -/
theorem check_c (w : World) (sz cut len : Int) (v : Value) (bs : List Blk) (hb : IsBks .u32 w v bs) (hl : len ≤ 9223372036854775807) (hbl : bs.length ≤ 9223372036854775807) :
    Calls Tryd.prog 48 #[sigV sz cut len v] w fun e w' => e = .returned (.int .i64 (checkE sz cut len bs)) ∧ Below w.heap.size w w' := by
  obtain ⟨a, c, g, off, rfl, hmc, hcm, _⟩ := hb.at
  by_cases h : fitsE sz cut len = 0
  · have hz := fitsE_zero h
    obtain ⟨k, rfl⟩ := Int.eq_ofNat_of_zero_le (show 0 ≤ cut by omega)
    by_cases hn : cntZ len sz = (bs.length : Int)
    · exact check_full w sz len k a bs.length c bs hb rfl h hn
    · exact check_len w sz k len a bs.length c bs rfl hl hbl h (fun e => hn e.symm)
  · exact check_bad w sz cut len _ bs rfl hl h
end Go.Proofs.YtkinpbhbgeiflaaDoor.Ki
/- block.Signature's Span. -/
namespace Go.Proofs.YtkinpbhbgeiflaaDoor.Kj
set_option linter.unusedVariables false
set_option linter.unusedSimpArgs false
set_option maxRecDepth 100000
open Go.ChangeShapes Go.WideShapes Go.ChangeAt Go.RowKit
open Go.Proofs.YtkinpbhbgeiflaaDoor.Wu Go.Proofs.YtkinpbhbgeiflaaDoor.Sm Go.Proofs.YtkinpbhbgeiflaaDoor.Sh Go.Proofs.YtkinpbhbgeiflaaDoor.Ba Go.Proofs.YtkinpbhbgeiflaaDoor.Bp Go.Proofs.YtkinpbhbgeiflaaDoor.Ka Go.Proofs.YtkinpbhbgeiflaaDoor.Kb Go.Proofs.YtkinpbhbgeiflaaDoor.Kc Go.Proofs.YtkinpbhbgeiflaaDoor.Kd Go.Proofs.YtkinpbhbgeiflaaDoor.Ke Go.Proofs.YtkinpbhbgeiflaaDoor.Rk Go.Proofs.YtkinpbhbgeiflaaDoor.Rw Go.Proofs.YtkinpbhbgeiflaaDoor.Rb1 Go.Proofs.YtkinpbhbgeiflaaDoor.Kg Go.Proofs.YtkinpbhbgeiflaaDoor.Kh Go.Proofs.YtkinpbhbgeiflaaDoor.Ki
open Go.Proofs.YtkinpbhbgeiflaaDoor.Su (cutL Cnt)
/-- What Make answers is right. -/
theorem mk_check (D : List Nat) (s k n : Nat) (l : Nat) (hf : fitsE (s : Int) (k : Int) (l : Int) = 0) (hn : cntZ l s = (n : Int)) : checkE s k l (mkB D s k n) = 0 := by
  unfold checkE
  rw [if_neg (by simpa using hf), if_neg (by rw [mkB_length, hn]; simp), if_pos]
  intro b hb
  obtain ⟨i, _, rfl⟩ := List.mem_map.1 hb
  have hz := fitsE_zero hf
  have hk : k ≤ 32 := by omega
  unfold Blk.clean blkOf
  simp only [Int.toNat_natCast]
  unfold cutL
  rw [List.take_append_of_le_length (by rw [List.length_take, sha_len]; omega), List.take_take, Nat.min_self]
end Go.Proofs.YtkinpbhbgeiflaaDoor.Kj
/- A map told by the list of its entries, whatever its keys and elements are. For any program. -/
namespace Go.Proofs.YtkinpbhbgeiflaaDoor.Km
set_option linter.unusedVariables false
set_option linter.unusedSimpArgs false
set_option maxRecDepth 100000
open Go.ChangeShapes Go.WideShapes Go.MapKept Go.Maps Go.RowKit
open Go.ChangeMaps (setBlock)
open Go.WideElems (Fit rd rg pl rd_key rd_val rg_of rd_mk other_key)
/-- Nothing is asked of an element. -/
def triv : Value → Option (DataW Unit × List MemPlace) := fun _ => some (.nil, [])
def pairs (es : Array MapEntry) : List (Value × Value) := es.toList.map fun x => (x.key, x.val)
def Absent (l : List (Value × Value)) (key : Value) : Prop := ∀ p ∈ l, p.1 ≠ key
def Here (l : List (Value × Value)) (key v : Value) : Prop := (key, v) ∈ l
/-- Block b is a map with these entries. -/
def MapL (P : Program) (k : TypeId) (w : World) (b : Nat) (l : List (Value × Value)) : Prop :=
  ∃ es clock, w.heap[b]? = some (.map es clock) ∧ Fit P k triv es clock ∧ l = pairs es
section
variable {P : Program} {k t e : TypeId} {w : World} {b : Nat} {l : List (Value × Value)}
theorem setBlock_same {o o' : Obj} (h : w.heap[b]? = some o) : (setBlock w b o').heap[b]? = some o' := by
  have : b < w.heap.size := (Array.getElem?_eq_some_iff.1 h).1
  simp [setBlock, this]
theorem setBlock_grown (o : Obj) : w.grownBy (setBlock w b o) (some b) :=
  ⟨rfl, rfl, rfl, by simp [setBlock], fun i _ hi => by
    simp only [setBlock]
    rw [Array.getElem?_setIfInBounds_ne (fun e => hi (by rw [e]))]⟩
theorem MapL.lt (h : MapL P k w b l) : b < w.heap.size := by
  obtain ⟨es, clock, hb, _⟩ := h
  exact (Array.getElem?_eq_some_iff.1 hb).1
theorem MapL.same {w' : World} (h : MapL P k w b l) (e : w'.heap[b]? = w.heap[b]?) : MapL P k w' b l := by
  obtain ⟨es, clock, hb, r⟩ := h
  exact ⟨es, clock, e.trans hb, r⟩
theorem MapL.made (w : World) : MapL P k (w.alloc (.map #[] 0)) w.heap.size [] :=
  ⟨#[], 0, (MapKept.heap_alloc w _).1, ⟨by simp, stamped_empty 0, by simp⟩, rfl⟩
/-- No key stands twice. -/
theorem MapL.once (h : MapL P k w b l) : l.Pairwise (fun p q => p.1 ≠ q.1) := by
  obtain ⟨es, clock, hb, F, rfl⟩ := h
  exact List.pairwise_map.2 ((stamped_iff es clock).1 F.stamped).2.2
theorem MapL.max (h : MapL P k w b l) : l.length ≤ maxLen := by
  obtain ⟨es, clock, hb, F, rfl⟩ := h
  simpa [pairs] using F.size
theorem MapL.key (h : MapL P k w b l) : ∀ p ∈ l, ∃ kl, keyOf P k p.1 = some kl := by
  obtain ⟨es, clock, hb, F, rfl⟩ := h
  intro p hp
  obtain ⟨x, hx, rfl⟩ := List.mem_map.1 hp
  obtain ⟨y, hy⟩ := F.reads x hx
  exact ⟨_, rd_key hy⟩
/-- Of two entries with one key there is one. -/
theorem MapL.one (h : MapL P k w b l) {key v v' : Value} (h1 : (key, v) ∈ l) (h2 : (key, v') ∈ l) : v = v' := by
  have := h.once
  clear h
  induction l with
  | nil => cases h1
  | cons p l ih =>
    obtain ⟨ha, hb⟩ := List.pairwise_cons.1 this
    rcases List.mem_cons.1 h1 with e1 | e1
    · rcases List.mem_cons.1 h2 with e2 | e2
      · rw [← e1] at e2; injection e2 with _ e2; exact e2.symm
      · rw [← e1] at ha; exact (ha _ e2 rfl).elim
    · rcases List.mem_cons.1 h2 with e2 | e2
      · rw [← e2] at ha; exact (ha _ e1 rfl).elim
      · exact ih e1 e2 hb
/-- m[k] -/
theorem MapL.look (h : MapL P k w b l) (c : Bool) (K : Keyed P k) (ht : P.underlying t = some (.map k e)) {z : Value} (hz : (zeroValue e).run P w = .ok z w) {key : Value} {kl : Lit} (hkey : keyOf P k key = some kl) :
    ((Instr.lookup t (.map (some b)) key c).run P w = .ok (if c then .tuple #[z, .bool false] else z) w ∧ ∀ p ∈ l, p.1 ≠ key) ∨
    ∃ v, (key, v) ∈ l ∧ (Instr.lookup t (.map (some b)) key c).run P w = .ok (if c then .tuple #[v, .bool true] else v) w := by
  obtain ⟨es, clock, hb, F, rfl⟩ := h
  rcases fit_look c K ht hz hb F hkey with ⟨h1, h2, _⟩ | ⟨e0, y, h1, h2, h3, _⟩
  · refine .inl ⟨h1, fun p hp => ?_⟩
    obtain ⟨x, hx, rfl⟩ := List.mem_map.1 hp
    exact h2 x hx
  · exact .inr ⟨e0.val, List.mem_map.2 ⟨e0, h1, by rw [h2]⟩, h3⟩
/-- What m[k] = v makes of the entries. -/
def Put (l : List (Value × Value)) (key val : Value) (l' : List (Value × Value)) : Prop :=
  ((∀ p ∈ l, p.1 ≠ key) ∧ l' = l ++ [(key, val)]) ∨ ∃ l1 v l2, l = l1 ++ (key, v) :: l2 ∧ l' = l1 ++ (key, val) :: l2
theorem split_at {α : Type} : ∀ (l : List α) (j : Nat) (x : α), l[j]? = some x → l = l.take j ++ x :: l.drop (j + 1)
  | [], j, x, h => by simp at h
  | a :: l, 0, x, h => by simp at h; subst h; simp
  | a :: l, j + 1, x, h => by
    have := split_at l j x (by simpa using h)
    simp only [List.take_succ_cons, List.drop_succ_cons, List.cons_append, List.cons.injEq, true_and]
    exact this
theorem MapL.store (h : MapL P k w b l) (K : Keyed P k) (ht : P.underlying t = some (.map k e)) (hroom : l.length < maxLen) {key : Value} (val : Value) {kl : Lit} (hkey : keyOf P k key = some kl) :
    ∃ l' w', (Instr.mapUpdate t (.map (some b)) key val).run P w = .ok () w' ∧ MapL P k w' b l' ∧ Put l key val l' ∧ w.grownBy w' (some b) := by
  obtain ⟨es, clock, hb, F, rfl⟩ := h
  have hroom : es.size < maxLen := by simpa [pairs] using hroom
  rcases K.find w hkey es.toList F.keys with ⟨h1, h2⟩ | ⟨j, e0, h1, h2, h3⟩
  · refine ⟨_, setBlock w b (.map (es.push ⟨key, val, clock⟩) (clock + 1)), ?_, ⟨es.push ⟨key, val, clock⟩, clock + 1, setBlock_same hb, ⟨by simp; omega, stamped_push F.stamped h2, ?_⟩, rfl⟩, .inl ⟨?_, ?_⟩, setBlock_grown _⟩
    · simp [Instr.mapUpdate, run_underlying ht, MapKept.run_getObj_map hb, K.check w false hkey, h1, MapKept.run_setObj_map _ hb, Result.andThen, setBlock]
    · intro x hx
      simp only [Array.toList_push, List.mem_append, List.mem_singleton] at hx
      rcases hx with hx | rfl
      · exact F.reads x hx
      · exact ⟨_, rd_mk hkey (yv := (.nil, [])) rfl⟩
    · intro p hp
      obtain ⟨x, hx, rfl⟩ := List.mem_map.1 hp
      exact h2 x hx
    · simp [pairs]
  · have hj : es[j]? = some e0 := by simpa using h2
    have hkeyf : ∀ e', es[j]? = some e' → ({ e' with key := key, val := val } : MapEntry).key = e'.key := fun e' he' => by rw [hj] at he'; cases he'; exact h3.symm
    have hlist : (es.modify j (fun e' => { e' with key := key, val := val })).toList = es.toList.set j { e0 with key := key, val := val } := by rw [Array.toList_modify, ChangeMaps.modify_eq_set _ _ _ _ h2]
    refine ⟨_, setBlock w b (.map (es.modify j (fun e' => { e' with key := key, val := val })) clock), ?_, ⟨es.modify j (fun e' => { e' with key := key, val := val }), clock, setBlock_same hb, ⟨by simpa using F.size, stamped_modify F.stamped _ _ (fun _ _ => rfl) (fun e' _ he' => hkeyf e' he'), ?_⟩, rfl⟩, .inr ⟨(pairs es).take j, e0.val, (pairs es).drop (j + 1), ?_, ?_⟩, setBlock_grown _⟩
    · simp [Instr.mapUpdate, run_underlying ht, MapKept.run_getObj_map hb, K.check w false hkey, h1, hj, h3, K.stays w hkey, MapKept.run_setObj_map _ hb, Result.andThen, setBlock]
    · intro x hx
      rw [hlist] at hx
      rcases List.mem_or_eq_of_mem_set hx with hx | rfl
      · exact F.reads x hx
      · exact ⟨_, rd_mk hkey (yv := (.nil, [])) rfl⟩
    · have := split_at (pairs es) j (e0.key, e0.val) (by simp [pairs, hj])
      rw [h3] at this
      exact this
    · simp only [pairs, hlist]
      rw [List.map_set, List.set_eq_take_append_cons_drop, if_pos (by simpa using (List.getElem?_eq_some_iff.1 h2).1)]
/-- What delete(m, k) makes of them. -/
def Del (l : List (Value × Value)) (key : Value) (l' : List (Value × Value)) : Prop :=
  ((∀ p ∈ l, p.1 ≠ key) ∧ l' = l) ∨ ∃ l1 v l2, l = l1 ++ (key, v) :: l2 ∧ l' = l1 ++ l2
theorem MapL.drop (h : MapL P k w b l) (K : Keyed P k) (ht : P.underlying t = some (.map k e)) (ty : TypeId) {key : Value} {kl : Lit} (hkey : keyOf P k key = some kl) :
    ∃ l' w', (Builtin.delete_ #[t, k] ty #[.map (some b), key]).run P w = .ok (.tuple #[]) w' ∧ MapL P k w' b l' ∧ Del l key l' ∧ w.grownBy w' (some b) := by
  obtain ⟨es, clock, hb, F, rfl⟩ := h
  rcases K.find w hkey es.toList F.keys with ⟨h1, h2⟩ | ⟨j, e0, h1, h2, h3⟩
  · refine ⟨_, setBlock w b (.map es clock), ?_, ⟨es, clock, setBlock_same hb, F, rfl⟩, .inl ⟨?_, rfl⟩, setBlock_grown _⟩
    · simp [Builtin.delete_, run_underlying ht, MapKept.run_getObj_map hb, K.check w _ hkey, h1, MapKept.run_setObj_map _ hb, Result.andThen, setBlock]
    · intro p hp
      obtain ⟨x, hx, rfl⟩ := List.mem_map.1 hp
      exact h2 x hx
  · have hj : es[j]? = some e0 := by simpa using h2
    have hjs : j < es.size := by simpa using (List.getElem?_eq_some_iff.1 h2).1
    have hsub : (es.eraseIdxIfInBounds j).toList = es.toList.eraseIdx j := by
      unfold Array.eraseIdxIfInBounds
      rw [dif_pos hjs]
      simp
    refine ⟨_, setBlock w b (.map (es.eraseIdxIfInBounds j) clock), ?_, ⟨es.eraseIdxIfInBounds j, clock, setBlock_same hb, ⟨Nat.le_trans (MapFrom.size_erase es j) F.size, stamped_erase F.stamped j, ?_⟩, rfl⟩, .inr ⟨(pairs es).take j, e0.val, (pairs es).drop (j + 1), ?_, ?_⟩, setBlock_grown _⟩
    · simp [Builtin.delete_, run_underlying ht, MapKept.run_getObj_map hb, K.check w _ hkey, h1, MapKept.run_setObj_map _ hb, Result.andThen, setBlock]
    · intro x hx
      rw [hsub] at hx
      exact F.reads x ((List.eraseIdx_sublist _ _).subset hx)
    · have := split_at (pairs es) j (e0.key, e0.val) (by simp [pairs, hj])
      rw [h3] at this
      exact this
    · simp only [pairs, hsub, ChangeMaps.map_eraseIdx]
      rw [List.eraseIdx_eq_take_drop_succ]
theorem Put.mem {key val : Value} {l' : List (Value × Value)} (h : Put l key val l') (ho : l.Pairwise (fun p q => p.1 ≠ q.1)) (p : Value × Value) : p ∈ l' ↔ p = (key, val) ∨ (p ∈ l ∧ p.1 ≠ key) := by
  rcases h with ⟨h1, rfl⟩ | ⟨l1, v, l2, rfl, rfl⟩
  · constructor
    · intro hp
      rcases List.mem_append.1 hp with h | h
      · exact .inr ⟨h, h1 p h⟩
      · exact .inl (by simpa using h)
    · rintro (rfl | ⟨h, _⟩) <;> simp [*]
  · have h2 := List.pairwise_append.1 ho
    obtain ⟨h3, h4, h5⟩ := h2
    obtain ⟨h6, h7⟩ := List.pairwise_cons.1 h4
    constructor
    · intro hp
      rcases List.mem_append.1 hp with h | h
      · exact .inr ⟨List.mem_append_left _ h, h5 p h (key, v) List.mem_cons_self⟩
      · rcases List.mem_cons.1 h with rfl | h
        · exact .inl rfl
        · exact .inr ⟨by simp [h], fun e => h6 p h e.symm⟩
    · rintro (rfl | ⟨h, hne⟩)
      · simp
      · rcases List.mem_append.1 h with h | h
        · simp [h]
        · rcases List.mem_cons.1 h with rfl | h
          · exact absurd rfl hne
          · simp [h]
theorem Put.length {key val : Value} {l' : List (Value × Value)} (h : Put l key val l') : l'.length ≤ l.length + 1 := by
  rcases h with ⟨h1, rfl⟩ | ⟨l1, v, l2, rfl, rfl⟩ <;> simp
theorem Del.mem {key : Value} {l' : List (Value × Value)} (h : Del l key l') (ho : l.Pairwise (fun p q => p.1 ≠ q.1)) (p : Value × Value) : p ∈ l' ↔ (p ∈ l ∧ p.1 ≠ key) := by
  rcases h with ⟨h1, rfl⟩ | ⟨l1, v, l2, rfl, rfl⟩
  · exact ⟨fun h => ⟨h, h1 p h⟩, fun h => h.1⟩
  · obtain ⟨h3, h4, h5⟩ := List.pairwise_append.1 ho
    obtain ⟨h6, h7⟩ := List.pairwise_cons.1 h4
    constructor
    · intro hp
      rcases List.mem_append.1 hp with h | h
      · exact ⟨List.mem_append_left _ h, h5 p h (key, v) List.mem_cons_self⟩
      · exact ⟨by simp [h], fun e => h6 p h e.symm⟩
    · rintro ⟨h, hne⟩
      rcases List.mem_append.1 h with h | h
      · simp [h]
      · rcases List.mem_cons.1 h with rfl | h
        · exact absurd rfl hne
        · simp [h]
end
section
variable {P : Program} {w : World} {ops : Array Oper} {rest : List Oper} {o : Oper} {a : Act} {Q : Exit → Act → World → Prop}
/-- The look-up as a step of the walk. -/
theorem wpList_look (hg : o.guard = none) (m x : Operand) (t : TypeId) (c : Bool) (hop : o.op = Op.lookup t m x c) (k e : TypeId) (K : Keyed P k) (ht : P.underlying t = some (.map k e)) (z : Value) (hz : ∀ w : World, (zeroValue e).run P w = .ok z w) (b : Nat) (l : List (Value × Value))
    (hm : a.eval m = .map (some b)) (h : MapL P k w b l) (key : Value) (kl : Lit) (hx : a.eval x = key) (hkey : keyOf P k key = some kl)
    (h1 : Absent l key → wpList P ops Q rest (a.put o.dst (if c then .tuple #[z, .bool false] else z)) w)
    (h2 : ∀ v, Here l key v → wpList P ops Q rest (a.put o.dst (if c then .tuple #[v, .bool true] else v)) w) : wpList P ops Q (o :: rest) a w := by
  refine wpList_plain hg fun K' hK' => ?_
  unfold Oper.wp
  rcases h.look c K ht (hz w) hkey with ⟨hrun, hno⟩ | ⟨v, hv, hrun⟩
  · simp [execOp, hop, hm, hx, hrun, Result.andThen]
    exact hK' _ _ (h1 hno)
  · simp [execOp, hop, hm, hx, hrun, Result.andThen]
    exact hK' _ _ (h2 v hv)
theorem wpList_put (hg : o.guard = none) (m x y : Operand) (t : TypeId) (hop : o.op = Op.mapUpdate t m x y) (k e : TypeId) (K : Keyed P k) (ht : P.underlying t = some (.map k e)) (b : Nat) (l : List (Value × Value))
    (hm : a.eval m = .map (some b)) (h : MapL P k w b l) (hroom : l.length < maxLen) (key val : Value) (kl : Lit) (hx : a.eval x = key) (hy : a.eval y = val) (hkey : keyOf P k key = some kl)
    (hK : ∀ l' w', Hid (MapL P k w' b l') → Hid (Put l key val l') → Hid (w.grownBy w' (some b)) → Hid (wpList P ops Q rest (a.put o.dst undef) w')) : wpList P ops Q (o :: rest) a w := by
  refine wpList_plain hg fun K' hK' => ?_
  obtain ⟨l', w', hrun, h1, h2, h3⟩ := h.store K ht hroom val hkey
  unfold Oper.wp
  simp [execOp, hop, hm, hx, hy, hrun, Result.andThen]
  exact hK' _ _ (hK l' w' h1 h2 h3)
theorem wpList_drop (hg : o.guard = none) (m x : Operand) (t k : TypeId) (hop : o.op = Op.call { callee := Callee.builtin Builtin.delete, args := #[m, x], argTypes := #[t, k] })
    (e : TypeId) (K : Keyed P k) (ht : P.underlying t = some (.map k e)) (b : Nat) (l : List (Value × Value))
    (hm : a.eval m = .map (some b)) (h : MapL P k w b l) (key : Value) (kl : Lit) (hx : a.eval x = key) (hkey : keyOf P k key = some kl)
    (hK : ∀ l' w', Hid (MapL P k w' b l') → Hid (Del l key l') → Hid (w.grownBy w' (some b)) → Hid (wpList P ops Q rest (a.put o.dst (.tuple #[])) w')) : wpList P ops Q (o :: rest) a w := by
  refine wpList_plain hg fun K' hK' => ?_
  obtain ⟨l', w', hrun, h1, h2, h3⟩ := h.drop K ht o.type hkey
  unfold Oper.wp
  simp [execOp, hop, resolve, invoke, builtin, hm, hx, hrun, Result.andThen]
  exact hK' _ _ (hK l' w' h1 h2 h3)
end
end Go.Proofs.YtkinpbhbgeiflaaDoor.Km
/- Places of blocks; a table of them by their weak sums: a map of slices of the call's own. -/
namespace Go.Proofs.YtkinpbhbgeiflaaDoor.Kk
set_option linter.unusedVariables false
set_option linter.unusedSimpArgs false
set_option maxRecDepth 100000
open Go.ChangeShapes Go.WideShapes Go.ChangeAt Go.RowKit
open Go.Maps (Keyed int_keyed keyOf_int_mk)
open Go.Proofs.YtkinpbhbgeiflaaDoor.Wu Go.Proofs.YtkinpbhbgeiflaaDoor.Sm Go.Proofs.YtkinpbhbgeiflaaDoor.Sh Go.Proofs.YtkinpbhbgeiflaaDoor.Ba Go.Proofs.YtkinpbhbgeiflaaDoor.Bp Go.Proofs.YtkinpbhbgeiflaaDoor.Ka Go.Proofs.YtkinpbhbgeiflaaDoor.Kb Go.Proofs.YtkinpbhbgeiflaaDoor.Kc Go.Proofs.YtkinpbhbgeiflaaDoor.Kd Go.Proofs.YtkinpbhbgeiflaaDoor.Km Go.Proofs.YtkinpbhbgeiflaaDoor.Rb1 Go.Proofs.YtkinpbhbgeiflaaDoor.Kg
/-- A block's place. -/
structure Plc where
  i : Nat
  n : Nat
  b : Blk
def plcC (p : Plc) : List Value := .int .i64 (p.i : Int) :: .int .i64 (p.n : Int) :: blkC .u32 p.b
def OkP (ps : List Plc) : Prop := ∀ p ∈ ps, p.b.ok
theorem plcC_length {p : Plc} (h : p.b.ok) : (plcC p).length = 35 := by simp [plcC, blkC_length h]
theorem plcC_one (p : Plc) : ∀ v ∈ plcC p, v.oneCell' = true := by
  intro v hv
  rcases List.mem_cons.1 hv with rfl | hv
  · rfl
  rcases List.mem_cons.1 hv with rfl | hv
  · rfl
  · exact blkC_one _ _ v hv
def rowP (ps : List Plc) : List Value := ps.flatMap plcC
theorem rowP_append (ps qs : List Plc) : rowP (ps ++ qs) = rowP ps ++ rowP qs := by simp [rowP]
theorem rowP_at : ∀ {ps : List Plc}, OkP ps → ∀ {i : Nat} {p : Plc}, ps[i]? = some p → ∀ j, j < 35 → (rowP ps)[i * 35 + j]? = (plcC p)[j]?
  | [], _, i, p, h, _, _ => by simp at h
  | c :: ps, hk, 0, p, h, j, hj => by
    simp at h
    subst h
    have := plcC_length (hk c List.mem_cons_self)
    rw [rowP, List.flatMap_cons, Nat.zero_mul, Nat.zero_add, List.getElem?_append_left (by omega)]
  | c :: ps, hk, i + 1, p, h, j, hj => by
    have h1 := plcC_length (hk c List.mem_cons_self)
    have ih := rowP_at (ps := ps) (fun x hx => hk x (List.mem_cons_of_mem _ hx)) (i := i) (p := p) (by simpa using h) j hj
    rw [rowP, List.flatMap_cons, List.getElem?_append_right (by omega), h1, show (i + 1) * 35 + j - 35 = i * 35 + j by omega]
    exact ih
def OwnP (w : World) (N : Nat) (v : Value) (ps : List Plc) : Prop := OkP ps ∧ w.ownsRow N 169 35 v ps.length (rowP ps)
theorem OwnP.nil (w : World) (N : Nat) : OwnP w N (.slice none 0 0) [] := ⟨(by intro b hb; cases hb), World.ownsRow_nil _ _ _ _⟩
theorem OwnP.own {w : World} {N : Nat} {v : Value} {ps : List Plc} (h : OwnP w N v ps) : ∀ g, v.ownBlock = some g → N ≤ g ∧ g < w.heap.size := fun g hg => h.2.lt g hg
theorem OwnP.same {w w' : World} {N : Nat} {v : Value} {ps : List Plc} (h : OwnP w N v ps) (hk : ∀ g, v.ownBlock = some g → w'.heap[g]? = w.heap[g]?) : OwnP w' N v ps := by
  obtain ⟨h0, h1, h2⟩ := h
  refine ⟨h0, h1, ?_⟩
  rcases h2 with h | ⟨g, cap, cur, rfl, hb, hg, r⟩
  · exact .inl h
  · exact .inr ⟨g, cap, cur, rfl, hb, (hk g rfl).trans hg, r⟩
theorem OwnP.below {w w' : World} {N : Nat} {v : Value} {ps : List Plc} (h : OwnP w N v ps) (hb : Below w.heap.size w w') : OwnP w' N v ps := h.same fun g hg => hb.block g (h.own g hg).2
theorem OwnP.kept {w w' : World} {N : Nat} {v : Value} {ps : List Plc} {row : Option Nat} (h : OwnP w N v ps) (hg : w.grownBy w' row) (hk : v.ownBlock = none ∨ v.ownBlock ≠ row) : OwnP w' N v ps :=
  h.same fun g hv => hg.block g (h.own g hv).2 (fun e => by rcases hk with h1 | h1; rw [h1] at hv; cases hv; exact h1 (by rw [hv, e]))
theorem OwnP.form {w : World} {N : Nat} {v : Value} {ps : List Plc} (h : OwnP w N v ps) : ∃ a cap, v = .slice a ps.length cap ∧ ps.length ≤ cap ∧ cap ≤ 9223372036854775807 ∧ ∃ g, (0 < ps.length → a = some ⟨g, 0, none⟩) ∧ ∀ i p, ps[i]? = some p → p.b.ok ∧ w.rangeAt g (i * 35) (plcC p) := by
  obtain ⟨h0, h1, h2⟩ := h
  rcases h2 with ⟨rfl, hn⟩ | ⟨g, cap, cur, rfl, hb, hg, hl, hm, hs, ht⟩
  · obtain rfl : ps = [] := List.length_eq_zero_iff.1 hn
    exact ⟨none, 0, rfl, Nat.le_refl _, by omega, 0, fun h => absurd h (by simp), fun i p hp => by simp at hp⟩
  · unfold maxLen at hm
    refine ⟨some ⟨g, 0, none⟩, cap, rfl, hl, by omega, g, fun _ => rfl, fun i p hp => ⟨h0 p (List.mem_of_getElem? hp), fun j v hv => ?_⟩⟩
    have hj : j < 35 := by rw [← plcC_length (h0 p (List.mem_of_getElem? hp))]; exact (List.getElem?_eq_some_iff.1 hv).1
    refine blk_cell hg ?_
    have e := rowP_at h0 hp j hj
    rw [hv, ← ht, List.getElem?_take] at e
    split at e
    · simpa using e
    · cases e
theorem info_plc : (Tryd.prog.info? 169).map (fun i => (i.zero, i.size, i.bytes)) = some (some (.agg (plcC ⟨0, 0, ⟨0, zeros 32⟩⟩).toArray), 35, 56) := by kernel_rfl
theorem plc_cells {w : World} {b : Nat} {x : Plc} {T : TypeId} {f : Nat × Nat} (h : w.heap[b]? = some (.cells (plcC x).toArray T f)) : ∀ j u, (plcC x)[j]? = some u → w.cell? ((⟨b, 0, none⟩ : Addr).add j) = some u := by
  intro j u hu
  rw [Addr.add_mid, Nat.zero_add]
  exact blk_cell h (by simpa using hu)
theorem append_plc (w : World) (ty : TypeId) (v : Value) (N : Nat) (ps : List Plc) (b : Nat) (x : Plc) (T : TypeId) (f : Nat × Nat) (c : Nat) (h : OwnP w N v ps) (hN : N ≤ w.heap.size) (hx : x.b.ok) (hb : w.heap[b]? = some (.cells (plcC x).toArray T f)) (hbig : ps.length ≤ 1000000000) :
    ∃ v' w', (Builtin.append_ #[167, 167] ty #[v, .slice (some ⟨b, 0, none⟩) 1 c]).run Tryd.prog w = .ok v' w' ∧ OwnP w' N v' (ps ++ [x]) ∧ w.grownBy w' v.ownBlock ∧ (v'.ownBlock = v.ownBlock ∨ v'.ownBlock = some w.heap.size) := by
  obtain ⟨i0, hi0, hz0, hz1, hz2⟩ := info_parts info_plc
  obtain ⟨h0, ho⟩ := h
  have h35 := plcC_length hx
  obtain ⟨v', w', hr, h1, h2, h3, h4⟩ := run_append_own_at (P := Tryd.prog) w N 167 ty 169 i0 _ 35 56 Tryd.underlying167 hi0 hz0 hz1 hz2 (by kernel_rfl) (by omega) v ps.length (rowP ps) ho ⟨b, 0, none⟩ 1 c (plcC x) (by rw [h35]) (plc_cells hb) (plcC_one x) (by unfold maxLen; omega) (by omega) hN
  refine ⟨v', w', hr, ⟨?_, ?_⟩, h2, h4⟩
  · intro y hy
    rcases List.mem_append.1 hy with hy | hy
    · exact h0 y hy
    · rw [List.mem_singleton.1 hy]; exact hx
  · rw [rowP_append, List.length_append]
    have : rowP [x] = plcC x := by simp [rowP]
    rw [this]
    exact h1
theorem zero_plc : (Tryd.prog.info? 169).bind (·.zero) = some (.agg (plcC ⟨0, 0, ⟨0, zeros 32⟩⟩).toArray) := by kernel_rfl
theorem built_plc (i n : Nat) (b : Blk) (hb : b.ok) : Tryd.prog.built 169 [(0, .int .i64 (i : Int)), (1, .int .i64 (n : Int)), (2, blkV .u32 b)] = some (plcC ⟨i, n, b⟩).toArray := by
  refine built_struct 169 _ _ _ [(0, 1), (1, 1), (2, 33)] (plcC ⟨0, 0, ⟨0, zeros 32⟩⟩) zero_plc Tryd.underlying169 (by kernel_rfl) rfl _ ?_
  have h0 : (plcC ⟨0, 0, ⟨0, zeros 32⟩⟩).length = 35 := by simp [plcC, blkC, b8_length, zeros_length]
  have hb33 := blkC_length (q := .u32) hb
  rw [fill_step _ _ [.int .i64 (i : Int)] 0 0 1 _ _ rfl rfl rfl (by omega)]
  have h1 : (spl (plcC ⟨0, 0, ⟨0, zeros 32⟩⟩) 0 [.int .i64 (i : Int)]).length = 35 := by rw [spl_length _ _ _ (by simp; omega)]; exact h0
  rw [fill_step _ _ [.int .i64 (n : Int)] 1 1 1 _ _ rfl rfl rfl (by omega)]
  have h2 : (spl (spl (plcC ⟨0, 0, ⟨0, zeros 32⟩⟩) 0 [.int .i64 (i : Int)]) 1 [.int .i64 (n : Int)]).length = 35 := by rw [spl_length _ _ _ (by simp; omega)]; exact h1
  rw [fill_step _ _ (blkC .u32 b) 2 2 33 _ _ rfl rfl hb33 (by omega), fill_nil]
  congr 2
  simp [spl, plcC, hb33, blkC, b8_length, zeros_length, hb.2.1]
theorem one_plc (u : World) (p : Plc) (hb : p.b.ok) : (Instr.buildSlice 167 1 #[(0, .agg (plcC p).toArray)]).run Tryd.prog u = .ok (.slice (some ⟨u.heap.size, 0, none⟩) 1 1) (u.alloc (.cells (plcC p).toArray 169)) := by
  obtain ⟨i0, hi0, hz0, hz1, hz2⟩ := info_parts info_plc
  exact run_slice_one u 167 169 (.agg (plcC p).toArray) (plcC p) i0 _ 35 Tryd.underlying167 hi0 hz0 hz1 (by omega) (by omega) rfl (plcC_length hb)
theorem law_u32 : Keyed Tryd.prog 108 := int_keyed Tryd.underlying108
theorem key_u32 {x : Nat} (h : x < 4294967296) : keyOf Tryd.prog 108 (.int .u32 (x : Int)) = some (.int .u32 (x : Int)) := keyOf_int_mk Tryd.underlying108 (by
  have : IntKind.u32.min = 0 := by decide
  have : IntKind.u32.max = 4294967295 := by decide
  simp [Lit.wf, *]
  omega)
theorem zero_sl (w : World) : (zeroValue 167).run Tryd.prog w = .ok (.slice none 0 0) w := by kernel_rfl
/-- The table: by its key each slice of places; no two lie in one row. -/
structure Tab (w : World) (M N : Nat) (l : List (Value × Value)) (G : Nat → List Plc) : Prop where
  map : MapL Tryd.prog 108 w M l
  low : M < N
  entry : ∀ p ∈ l, ∃ x : Nat, x < 4294967296 ∧ p.1 = .int .u32 (x : Int) ∧ OwnP w N p.2 (G x)
  absent : ∀ x : Nat, (∀ p ∈ l, p.1 ≠ .int .u32 (x : Int)) → G x = []
  apart : ∀ p ∈ l, ∀ q ∈ l, p.1 ≠ q.1 → p.2.ownBlock = none ∨ p.2.ownBlock ≠ q.2.ownBlock
theorem Tab.made (w : World) : Tab (w.alloc (.map #[] 0)) w.heap.size (w.heap.size + 1) [] (fun _ => []) :=
  ⟨MapL.made w, by omega, (by intro p hp; cases hp), (fun _ _ => rfl), (by intro p hp; cases hp)⟩
theorem Tab.below {w w' : World} {M N : Nat} {l : List (Value × Value)} {G : Nat → List Plc} (h : Tab w M N l G) (hb : Below w.heap.size w w') : Tab w' M N l G :=
  ⟨h.map.same (hb.block M h.map.lt), h.low, fun p hp => by obtain ⟨x, h1, h2, h3⟩ := h.entry p hp; exact ⟨x, h1, h2, h3.below hb⟩, h.absent, h.apart⟩
theorem Tab.raise {w : World} {M N N' : Nat} {l : List (Value × Value)} {G : Nat → List Plc} (h : Tab w M N l G) (hl : l = []) (hN : N ≤ N') : Tab w M N' l G := by
  subst hl
  exact ⟨h.map, by have := h.low; omega, (by intro p hp; cases hp), h.absent, (by intro p hp; cases hp)⟩
/-- What stands at a key. -/
theorem Tab.at {w : World} {M N : Nat} {l : List (Value × Value)} {G : Nat → List Plc} (h : Tab w M N l G) {x : Nat} (hx : x < 4294967296) :
    ∃ v, (∀ u : World, u.heap[M]? = w.heap[M]? → (Instr.lookup 164 (.map (some M)) (.int .u32 (x : Int)) false).run Tryd.prog u = .ok v u) ∧ OwnP w N v (G x) ∧ (∀ p ∈ l, p.1 ≠ .int .u32 (x : Int) → p.2.ownBlock = none ∨ p.2.ownBlock ≠ v.ownBlock) := by
  rcases h.map.look (t := 164) false law_u32 Tryd.underlying164 (zero_sl w) (key_u32 hx) with ⟨_, hno⟩ | ⟨v, hv, _⟩
  · refine ⟨.slice none 0 0, fun u hu => ?_, ?_, fun p hp _ => ?_⟩
    · rcases (h.map.same hu).look (t := 164) false law_u32 Tryd.underlying164 (zero_sl u) (key_u32 hx) with ⟨hr, _⟩ | ⟨v, hv, _⟩
      · exact hr
      · exact absurd rfl (hno _ hv)
    · rw [h.absent x hno]; exact OwnP.nil w N
    · cases hb : p.2.ownBlock with
      | none => exact .inl rfl
      | some g => exact .inr (fun e => by cases e)
  · refine ⟨v, fun u hu => ?_, ?_, fun p hp hne => h.apart p hp _ hv hne⟩
    · rcases (h.map.same hu).look (t := 164) false law_u32 Tryd.underlying164 (zero_sl u) (key_u32 hx) with ⟨_, hno⟩ | ⟨v', hv', hr⟩
      · exact absurd rfl (hno _ hv)
      · rw [h.map.one hv' hv] at hr; exact hr
    · obtain ⟨y, h1, h2, h3⟩ := h.entry _ hv
      simp only [Value.int.injEq, true_and] at h2
      have : x = y := by omega
      rw [this]; exact h3
end Go.Proofs.YtkinpbhbgeiflaaDoor.Kk
/- The table as it grows. -/
namespace Go.Proofs.YtkinpbhbgeiflaaDoor.Kl
set_option linter.unusedVariables false
set_option linter.unusedSimpArgs false
set_option maxRecDepth 100000
open Go.ChangeShapes Go.WideShapes Go.ChangeAt Go.RowKit
open Go.Maps (Keyed int_keyed keyOf_int_mk)
open Go.Proofs.YtkinpbhbgeiflaaDoor.Wu Go.Proofs.YtkinpbhbgeiflaaDoor.Sm Go.Proofs.YtkinpbhbgeiflaaDoor.Sh Go.Proofs.YtkinpbhbgeiflaaDoor.Ba Go.Proofs.YtkinpbhbgeiflaaDoor.Bp Go.Proofs.YtkinpbhbgeiflaaDoor.Ka Go.Proofs.YtkinpbhbgeiflaaDoor.Kb Go.Proofs.YtkinpbhbgeiflaaDoor.Kc Go.Proofs.YtkinpbhbgeiflaaDoor.Kd Go.Proofs.YtkinpbhbgeiflaaDoor.Km Go.Proofs.YtkinpbhbgeiflaaDoor.Rb1 Go.Proofs.YtkinpbhbgeiflaaDoor.Kg Go.Proofs.YtkinpbhbgeiflaaDoor.Kk Go.Proofs.YtkinpbhbgeiflaaDoor.Rk
/-- The table when a slice has been appended to, and isn't stored yet. -/
structure Tab2 (w : World) (M N : Nat) (l : List (Value × Value)) (G : Nat → List Plc) (x : Nat) (v : Value) (ps : List Plc) : Prop where
  map : MapL Tryd.prog 108 w M l
  low : M < N
  entry : ∀ p ∈ l, p.1 ≠ .int .u32 (x : Int) → ∃ y : Nat, y < 4294967296 ∧ p.1 = .int .u32 (y : Int) ∧ OwnP w N p.2 (G y)
  absent : ∀ y : Nat, (∀ p ∈ l, p.1 ≠ .int .u32 (y : Int)) → G y = []
  apart : ∀ p ∈ l, ∀ q ∈ l, p.1 ≠ q.1 → p.2.ownBlock = none ∨ p.2.ownBlock ≠ q.2.ownBlock
  new : OwnP w N v ps
  alone : ∀ p ∈ l, p.1 ≠ .int .u32 (x : Int) → p.2.ownBlock = none ∨ p.2.ownBlock ≠ v.ownBlock
theorem Tab2.below {w w' : World} {M N : Nat} {l : List (Value × Value)} {G : Nat → List Plc} {x : Nat} {v : Value} {ps : List Plc} (h : Tab2 w M N l G x v ps) (hb : Below w.heap.size w w') : Tab2 w' M N l G x v ps :=
  ⟨h.map.same (hb.block M h.map.lt), h.low, fun p hp hne => by obtain ⟨y, h1, h2, h3⟩ := h.entry p hp hne; exact ⟨y, h1, h2, h3.below hb⟩, h.absent, h.apart, h.new.below hb, h.alone⟩
theorem Tab.append {w w' : World} {M N : Nat} {l : List (Value × Value)} {G : Nat → List Plc} (h : Tab w M N l G) {x : Nat} {v v' : Value} {ps : List Plc} (hv : OwnP w N v (G x)) (hal : ∀ p ∈ l, p.1 ≠ .int .u32 (x : Int) → p.2.ownBlock = none ∨ p.2.ownBlock ≠ v.ownBlock)
    (hg : w.grownBy w' v.ownBlock) (hn : OwnP w' N v' ps) (ho : v'.ownBlock = v.ownBlock ∨ v'.ownBlock = some w.heap.size) : Tab2 w' M N l G x v' ps := by
  refine ⟨h.map.same (hg.block M h.map.lt (fun e => ?_)), h.low, fun p hp hne => ?_, h.absent, h.apart, hn, fun p hp hne => ?_⟩
  · have := (hv.own M e.symm).1
    have := h.low
    omega
  · obtain ⟨y, h1, h2, h3⟩ := h.entry p hp
    exact ⟨y, h1, h2, h3.kept hg (hal p hp hne)⟩
  · rcases ho with e | e
    · rw [e]; exact hal p hp hne
    · obtain ⟨y, h1, h2, h3⟩ := h.entry p hp
      cases hb : p.2.ownBlock with
      | none => exact .inl rfl
      | some g =>
        have := (h3.own g hb).2
        right; rw [e]; intro e'; injection e' with e'; omega
theorem Tab2.store {w : World} {M N : Nat} {l : List (Value × Value)} {G : Nat → List Plc} {x : Nat} {v : Value} {ps : List Plc} (h : Tab2 w M N l G x v ps) (hx : x < 4294967296) (hroom : l.length < maxLen) :
    ∃ l' w', (Instr.mapUpdate 164 (.map (some M)) (.int .u32 (x : Int)) v).run Tryd.prog w = .ok () w' ∧ Tab w' M N l' (fun y => if y = x then ps else G y) ∧ w.grownBy w' (some M) ∧ l'.length ≤ l.length + 1 := by
  obtain ⟨l', w', hr, hm, hp, hg⟩ := h.map.store (t := 164) law_u32 Tryd.underlying164 hroom v (key_u32 hx)
  have hmem := hp.mem h.map.once
  have hM : ∀ g, N ≤ g → some g ≠ some M := fun g hN e => by injection e with e; have := h.low; omega
  have keep : ∀ u qs, OwnP w N u qs → OwnP w' N u qs := fun u qs hu => hu.kept hg (by
    cases hb : u.ownBlock with
    | none => exact .inl rfl
    | some g => exact .inr (hM g (hu.own g hb).1))
  refine ⟨l', w', hr, ⟨hm, h.low, fun p hp' => ?_, fun y hy => ?_, fun p hp' q hq' hne => ?_⟩, hg, hp.length⟩
  · rcases (hmem p).1 hp' with rfl | ⟨h1, h2⟩
    · exact ⟨x, hx, rfl, by simp only [if_true]; exact keep _ _ h.new⟩
    · obtain ⟨y, h3, h4, h5⟩ := h.entry p h1 h2
      refine ⟨y, h3, h4, ?_⟩
      rw [if_neg (fun e => h2 (by rw [h4, e]))]
      exact keep _ _ h5
  · have hyx : y ≠ x := fun e => hy _ ((hmem _).2 (.inl rfl)) (by rw [e])
    rw [if_neg hyx]
    refine h.absent y (fun p hp' e => ?_)
    exact hy p ((hmem p).2 (.inr ⟨hp', fun e2 => hyx (by rw [e] at e2; simp only [Value.int.injEq, true_and] at e2; omega)⟩)) e
  · rcases (hmem p).1 hp' with rfl | ⟨h1, h2⟩
    · rcases (hmem q).1 hq' with rfl | ⟨h3, h4⟩
      · exact absurd rfl hne
      · cases hb : v.ownBlock with
        | none => exact .inl rfl
        | some g =>
          right
          rcases h.alone q h3 h4 with e | e
          · show some g ≠ q.2.ownBlock
            rw [e]; intro e'; cases e'
          · rw [hb] at e; exact fun e' => e e'.symm
    · rcases (hmem q).1 hq' with rfl | ⟨h3, h4⟩
      · exact h.alone p h1 h2
      · exact h.apart p h1 q h3 hne
theorem kUpon_look {P : Program} {a : Act} {o : Oper} {u : World} {K : Value → World → Prop} (t : TypeId) (m x : Operand) (c : Bool) (hop : o.op = Op.lookup t m x c) (v : Value) (mv kv : Value) (hm : a.eval m = mv) (hk : a.eval x = kv) (hr : (Instr.lookup t mv kv c).run P u = .ok v u) (h : K v u) : kUpon P K ((execOp a.eval o).run P u) := by
  subst hm hk
  have e : (execOp a.eval o).run P u = .ok (.value v) u := by
    simp [execOp, hop, hr, Result.andThen]
  rw [e]
  exact h
theorem kUpon_put {P : Program} {a : Act} {o : Oper} {u u' : World} {K : Value → World → Prop} (t : TypeId) (m x y : Operand) (hop : o.op = Op.mapUpdate t m x y) (mv kv v : Value) (hm : a.eval m = mv) (hk : a.eval x = kv) (hv : a.eval y = v) (hr : (Instr.mapUpdate t mv kv v).run P u = .ok () u') (h : K undef u') : kUpon P K ((execOp a.eval o).run P u) := by
  subst hm hk hv
  have e : (execOp a.eval o).run P u = .ok .skip u' := by
    simp [execOp, hop, hr, Result.andThen]
  rw [e]
  exact h
/-- The places of the first i blocks. -/
def plcs (s l : Nat) (bs : List Blk) (i : Nat) : List Plc := (List.range i).map fun j => ⟨j, min s (l - j * s), bs.getD j ⟨0, []⟩⟩
def grp (s l : Nat) (bs : List Blk) (i x : Nat) : List Plc := (plcs s l bs i).filter fun p => p.b.w = x
theorem grp_zero (s l : Nat) (bs : List Blk) : grp s l bs 0 = fun _ => [] := by funext x; rfl
theorem grp_step (s l : Nat) (bs : List Blk) (i : Nat) (b : Blk) (hb : bs[i]? = some b) : grp s l bs (i + 1) = fun y => if y = b.w then grp s l bs i b.w ++ [⟨i, min s (l - i * s), b⟩] else grp s l bs i y := by
  funext y
  have hd : bs.getD i ⟨0, []⟩ = b := by simp [List.getD, hb]
  unfold grp plcs
  rw [List.range_succ, List.map_append, List.filter_append]
  simp only [List.map_cons, List.map_nil, hd]
  by_cases h : y = b.w
  · rw [if_pos h, h]; simp
  · rw [if_neg h]
    have : ¬ b.w = y := fun e => h e.symm
    simp [this]
theorem grp_length (s l : Nat) (bs : List Blk) (i x : Nat) : (grp s l bs i x).length ≤ i := by
  refine Nat.le_trans (List.length_filter_le _ _) ?_
  simp [plcs]
end Go.Proofs.YtkinpbhbgeiflaaDoor.Kl
/- As Rg, but for the operations of one value each: of each one is said up to which stage it yields it; those that lead on from there wait for it. So a region may load what it stores. For any program. -/
namespace Go.Proofs.YtkinpbhbgeiflaaDoor.Rh
set_option linter.unusedVariables false
set_option linter.unusedSimpArgs false
set_option maxRecDepth 100000
open Go.Proofs.YtkinpbhbgeiflaaDoor.Rk
section
variable {P : Program} {ops : Array Oper} {md : Region.Mode} {T : List Value → World → Prop}
/-- The operation yields v in every world of every stage from h on, and keeps the stage. -/
def KeepsF (P : Program) (ops : Array Oper) (T : List Value → World → Prop) (h : List Value) (o : Oper) (v : Value) (a : Act) : Prop :=
  (Region.wanted o (yielded ops a.tmps) = true ∧ ∀ (h' : List Value) (w : World) (K : Value → World → Prop), T (h ++ h') w → (∀ w', T (h ++ h') w' → K v w') → kUpon P K ((execOp a.eval o).run P w)) ∨
  (Region.wanted o (yielded ops a.tmps) = false ∧ v = undef)
theorem KeepsF.up {h : List Value} {o : Oper} {v : Value} {a : Act} (hy : KeepsF P ops T h o v a) (u : Value) : KeepsF P ops T (h ++ [u]) o v a := by
  rcases hy with ⟨h1, h2⟩ | h
  · refine .inl ⟨h1, fun h' w K hT hK => ?_⟩
    rw [List.append_assoc] at hT
    refine h2 ([u] ++ h') w K hT (fun w' hT' => hK w' ?_)
    rw [List.append_assoc]; exact hT'
  · exact .inr h
/-- The operation yields v at every stage of at most L steps, and keeps it. -/
def KeepsB (P : Program) (ops : Array Oper) (T : List Value → World → Prop) (L : Nat) (o : Oper) (v : Value) (a : Act) : Prop :=
  (Region.wanted o (yielded ops a.tmps) = true ∧ ∀ (h : List Value) (w : World) (K : Value → World → Prop), h.length ≤ L → T h w → (∀ w', T h w' → K v w') → kUpon P K ((execOp a.eval o).run P w)) ∨
  (Region.wanted o (yielded ops a.tmps) = false ∧ v = undef)
theorem KeepsB.of_same {L : Nat} {o : Oper} {v : Value} {a a' : Act} (hy : KeepsB P ops T L o v a) (he : execOp a'.eval o = execOp a.eval o)
    (hw : Region.wanted o (yielded ops a'.tmps) = Region.wanted o (yielded ops a.tmps)) : KeepsB P ops T L o v a' := by
  unfold KeepsB at *
  rw [he, hw]
  exact hy
/-- The operation leads from this stage to the next one, whatever it yields (of the kind V). -/
def KeepsD (P : Program) (ops : Array Oper) (T : List Value → World → Prop) (h : List Value) (V : Value → Prop) (o : Oper) (a : Act) : Prop :=
  Region.wanted o (yielded ops a.tmps) = true ∧ (∃ v, V v) ∧ ∀ (w : World) (K : Value → World → Prop), T h w → (∀ v w', V v → T (h ++ [v]) w' → K v w') → kUpon P K ((execOp a.eval o).run P w)
theorem KeepsF.of_same {h : List Value} {o : Oper} {v : Value} {a a' : Act} (hy : KeepsF P ops T h o v a) (he : execOp a'.eval o = execOp a.eval o)
    (hw : Region.wanted o (yielded ops a'.tmps) = Region.wanted o (yielded ops a.tmps)) : KeepsF P ops T h o v a' := by
  unfold KeepsF at *
  rw [he, hw]
  exact hy
theorem KeepsD.of_same {h : List Value} {V : Value → Prop} {o : Oper} {a a' : Act} (hy : KeepsD P ops T h V o a) (he : execOp a'.eval o = execOp a.eval o)
    (hw : Region.wanted o (yielded ops a'.tmps) = Region.wanted o (yielded ops a.tmps)) : KeepsD P ops T h V o a' := by
  unfold KeepsD at *
  rw [he, hw]
  exact hy
/-- In whatever order; 'c k' is the value of the k-th operation; 'some none', if it hangs on those that hang on the world; none, if it hangs on the world itself. -/
def wpAnyD (P : Program) (md : Region.Mode) (ops : Array Oper) (T : List Value → World → Prop) (c : Nat → Option (Option Value)) (lim : Nat → Nat) (Q : Act → List Value → Prop) : Nat → Array Bool → Act → List Value → Prop
  | 0, listed, a, h => Region.ready md ops listed = [] ∧ Q a h
  | fuel + 1, listed, a, h => (Region.ready md ops listed = [] → Q a h) ∧
      ∀ i ∈ Region.ready md ops listed, ∀ o, ops[i]? = some o →
        (∀ v, c i = some (some v) → h.length ≤ lim i ∧ KeepsB P ops T (lim i) o v a ∧ wpAnyD P md ops T c lim Q fuel (listed.setIfInBounds i true) (a.put o.dst v) h) ∧
        (c i = some none → ∃ v, KeepsF P ops T h o v a ∧ wpAnyD P md ops T c lim Q fuel (listed.setIfInBounds i true) (a.put o.dst v) h) ∧
        (c i = none → ∃ V : Value → Prop, KeepsD P ops T h V o a ∧ ∀ v, V v → wpAnyD P md ops T c lim Q fuel (listed.setIfInBounds i true) (a.put o.dst v) (h ++ [v]))
theorem wpAny_of_D {c : Nat → Option (Option Value)} {lim : Nat → Nat} {Q : Act → List Value → Prop} {Q' : Exit → Act → World → Prop} (hQ : ∀ a h, Q a h → ∀ w, T h w → Q' .normal a w) :
    ∀ (fuel : Nat) (listed : Array Bool) (a : Act) (h : List Value) (w : World), T h w → wpAnyD P md ops T c lim Q fuel listed a h → wpAny P md ops Q' fuel listed a w
  | 0, listed, a, h, w, hS, H => ⟨H.1, hQ a h H.2 w hS⟩
  | fuel + 1, listed, a, h, w, hS, H => by
    refine ⟨fun h0 => hQ a h (H.1 h0) w hS, fun i hi => ?_⟩
    unfold wpOp
    cases ho : ops[i]? with
    | none =>
      obtain ⟨_, o, hoo, _⟩ := mem_ready.1 hi
      rw [ho] at hoo; cases hoo
    | some o =>
      obtain ⟨hF, hG, hD⟩ := H.2 i hi o ho
      have both : ∀ v, ((Region.wanted o (yielded ops a.tmps) = true ∧ ∀ (w : World) (K : Value → World → Prop), T h w → (∀ w', T h w' → K v w') → kUpon P K ((execOp a.eval o).run P w)) ∨ (Region.wanted o (yielded ops a.tmps) = false ∧ v = undef)) → wpAnyD P md ops T c lim Q fuel (listed.setIfInBounds i true) (a.put o.dst v) h → (if Region.wanted o (yielded ops a.tmps) = true then o.wp P a w (wpAny P md ops Q' fuel (listed.setIfInBounds i true)) Q' ∨ (o.asks P a w ∧ LetsOut Q') else wpAny P md ops Q' fuel (listed.setIfInBounds i true) (a.put o.dst undef) w) := by
        intro v hk hn
        have next : ∀ w', T h w' → wpAny P md ops Q' fuel (listed.setIfInBounds i true) (a.put o.dst v) w' := fun w' hS' => wpAny_of_D hQ fuel _ _ h w' hS' hn
        rcases hk with ⟨hw, hk⟩ | ⟨hw, rfl⟩
        · simp only [hw, if_true]
          refine Or.inl ?_
          have h1 := hk w (fun x w' => x = v ∧ T h w') hS (fun w' hS' => ⟨rfl, hS'⟩)
          unfold Oper.wp
          generalize (execOp a.eval o).run P w = r at h1
          cases r with
          | ok n w1 =>
            cases n <;> simp only [kUpon] at h1
            case value x => obtain ⟨rfl, h2⟩ := h1; exact next _ h2
            case skip => obtain ⟨rfl, h2⟩ := h1; exact next _ h2
            case enter f args =>
              show Calls P f args w1 _
              refine h1.mono fun e w2 he => ?_
              cases e with
              | returned x => obtain ⟨rfl, h2⟩ := he; exact next _ h2
              | panicked c => exact he.elim
              | outgrown => exact he.elim
          | halt x w1 => simp only [kUpon] at h1
        · simp only [hw, Bool.false_eq_true, if_false]
          exact next w hS
      cases hc : c i with
      | some ov =>
        cases ov with
        | some v =>
          obtain ⟨hl, hk, hn⟩ := hF v hc
          exact both v (by
            rcases hk with ⟨h1, h2⟩ | h1
            · exact .inl ⟨h1, fun w K hT hK => h2 h w K hl hT hK⟩
            · exact .inr h1) hn
        | none =>
          obtain ⟨v, hk, hn⟩ := hG hc
          exact both v (by
            rcases hk with ⟨h1, h2⟩ | h1
            · exact .inl ⟨h1, fun w K hT hK => by
                have := h2 [] w K (by rw [List.append_nil]; exact hT) (fun w' hT' => hK w' (by rw [List.append_nil] at hT'; exact hT'))
                exact this⟩
            · exact .inr h1) hn
      | none =>
        obtain ⟨V, ⟨hw, _, hk⟩, hn⟩ := hD hc
        have next : ∀ v w', V v ∧ T (h ++ [v]) w' → wpAny P md ops Q' fuel (listed.setIfInBounds i true) (a.put o.dst v) w' := fun v w' hS' => wpAny_of_D hQ fuel _ _ (h ++ [v]) w' hS'.2 (hn v hS'.1)
        simp only [hw, if_true]
        refine Or.inl ?_
        have h1 := hk w (fun x w' => V x ∧ T (h ++ [x]) w') hS (fun v w' hv hS' => ⟨hv, hS'⟩)
        unfold Oper.wp
        generalize (execOp a.eval o).run P w = r at h1
        cases r with
        | ok n w1 =>
          cases n <;> simp only [kUpon] at h1
          case value x => exact next _ _ h1
          case skip => exact next _ _ h1
          case enter f args =>
            show Calls P f args w1 _
            refine h1.mono fun e w2 he => ?_
            cases e with
            | returned x => exact next _ _ he
            | panicked c => exact he.elim
            | outgrown => exact he.elim
        | halt x w1 => simp only [kUpon] at h1
/-- Whether an operation waits for another one, by however many others. -/
def waits (md : Region.Mode) (ops : Array Oper) (i : Nat) : Nat → Nat → Bool
  | 0, _ => false
  | f + 1, j => match ops[j]? with
    | none => false
    | some o => o.after.any fun e => Region.binds md e && (e.on == i || waits md ops i f e.on)
/-- What is done has all done that it waits for. -/
def Closed (md : Region.Mode) (ops : Array Oper) (listed : Array Bool) : Prop :=
  ∀ k o, listed.getD k false = true → ops[k]? = some o → ∀ e ∈ o.after, Region.binds md e = true → listed.getD e.on false = true
theorem getD_both {listed : Array Bool} {i : Nat} (h : listed.getD i true = false) : listed.getD i false = false := by
  rcases Nat.lt_or_ge i listed.size with h' | h'
  · simpa [h'] using h
  · simp [Array.getElem?_eq_none h'] at h
theorem Closed.set {listed : Array Bool} {j : Nat} (hc : Closed md ops listed) (hj : j ∈ Region.ready md ops listed) : Closed md ops (listed.setIfInBounds j true) := by
  obtain ⟨hjun, oj, hoj, hall⟩ := mem_ready.1 hj
  have mono : ∀ x, listed.getD x false = true → (listed.setIfInBounds j true).getD x false = true := by
    intro x hx
    by_cases hxj : j = x
    · subst hxj
      rw [getD_both hjun] at hx; cases hx
    · rw [getD_set_ne false hxj]; exact hx
  intro k o hk ho e he hb
  by_cases hkj : j = k
  · subst hkj
    obtain rfl := Option.some.inj (hoj.symm.trans ho)
    exact mono _ (hall e he hb)
  · rw [getD_set_ne false hkj] at hk
    exact mono _ (hc k o hk ho e he hb)
theorem waits_not {listed : Array Bool} {i : Nat} (hc : Closed md ops listed) (hi : listed.getD i true = false) : ∀ f j o, ops[j]? = some o → waits md ops i f j = true → ¬ (∀ e ∈ o.after, Region.binds md e = true → listed.getD e.on false = true)
  | 0, j, o, ho, hw, _ => by simp [waits] at hw
  | f + 1, j, o, ho, hw, hall => by
    simp only [waits, ho, Array.any_eq_true', Bool.and_eq_true, Bool.or_eq_true, beq_iff_eq] at hw
    obtain ⟨e, he, hb, h⟩ := hw
    have hl := hall e he hb
    rcases h with h | h
    · rw [h, getD_both hi] at hl; cases hl
    · cases hoe : ops[e.on]? with
      | none =>
        cases f with
        | zero => simp [waits] at h
        | succ f => simp [waits, hoe] at h
      | some oe => exact waits_not hc hi f e.on oe hoe h (fun e' he' hb' => hc e.on oe hl hoe e' he' hb')
/-- How many of them may still come ahead of i. -/
def before (md : Region.Mode) (ops : Array Oper) (i : Nat) (listed : Array Bool) (ds : List Nat) : Nat := ds.countP fun j => !listed.getD j true && !waits md ops i ops.size j
theorem countP_le {p q : Nat → Bool} : ∀ (l : List Nat), (∀ x, q x = true → p x = true) → l.countP q ≤ l.countP p
  | [], _ => Nat.le_refl _
  | x :: l, h => by
    have ih := countP_le l h
    rw [List.countP_cons, List.countP_cons]
    cases hq : q x
    · simp; omega
    · rw [h x hq]; simp; exact ih
theorem countP_lt {p q : Nat → Bool} {j : Nat} (hp : p j = true) (hq : q j = false) : ∀ (l : List Nat), j ∈ l → (∀ x, q x = true → p x = true) → l.countP q + 1 ≤ l.countP p
  | [], hj, _ => by cases hj
  | x :: l, hj, h => by
    rw [List.countP_cons, List.countP_cons]
    rcases List.mem_cons.1 hj with rfl | hj
    · have := countP_le l h
      rw [hp, hq]; simp; omega
    · have ih := countP_lt hp hq l hj h
      cases hqx : q x
      · simp; omega
      · rw [h x hqx]; simp; omega
theorem before_set {i j : Nat} {listed : Array Bool} {ds : List Nat} : before md ops i (listed.setIfInBounds j true) ds ≤ before md ops i listed ds := by
  refine countP_le ds fun x hx => ?_
  simp only [Bool.and_eq_true, Bool.not_eq_true'] at hx ⊢
  refine ⟨?_, hx.2⟩
  by_cases hjx : j = x
  · subst hjx
    rcases Nat.lt_or_ge j listed.size with h' | h'
    · simp [h'] at hx
    · simpa [h'] using hx.1
  · have := hx.1
    rwa [getD_set_ne true hjx] at this
theorem before_take {i j : Nat} {listed : Array Bool} {ds : List Nat} (hj : j ∈ ds) (hun : listed.getD j true = false) (hw : waits md ops i ops.size j = false) : before md ops i (listed.setIfInBounds j true) ds + 1 ≤ before md ops i listed ds := by
  refine countP_lt (j := j) (by simp only [hun, hw]; rfl) ?_ ds hj fun x hx => ?_
  · rcases Nat.lt_or_ge j listed.size with h' | h'
    · simp [h']
    · simp [Array.getElem?_eq_none h'] at hun
  · simp only [Bool.and_eq_true, Bool.not_eq_true'] at hx ⊢
    refine ⟨?_, hx.2⟩
    by_cases hjx : j = x
    · subst hjx
      exact hun
    · have := hx.1
      rwa [getD_set_ne true hjx] at this
section
variable {c : Nat → Option (Option Value)} {lim : Nat → Nat} {Q : Act → List Value → Prop} {i : Nat} {oi : Oper}
/-- One of a known value can be taken first. -/
theorem firstB {v : Value} {ds : List Nat} (hds : ∀ j, c j = none → j ∈ ds) (hi : ops[i]? = some oi) (hci : c i = some (some v)) (hsel : ∀ (j : Nat) (o : Oper) cs b, ops[j]? = some o → o.op ≠ .select cs b) :
    ∀ (fuel : Nat) (listed : Array Bool) (a : Act) (h : List Value), Closed md ops listed → h.length + before md ops i listed ds ≤ lim i →
      (∀ j oj, ops[j]? = some oj → j ≠ i → listed.getD j true = false → (∀ e ∈ oj.after, Region.binds md e = true → e.on ≠ i) → oi.apart ops oj = true) →
      i ∈ Region.ready md ops listed → KeepsB P ops T (lim i) oi v a →
      wpAnyD P md ops T c lim Q fuel (listed.setIfInBounds i true) (a.put oi.dst v) h → wpAnyD P md ops T c lim Q (fuel + 1) listed a h := by
  intro fuel
  have atI : ∀ (f : Nat) (listed : Array Bool) (a : Act) (h : List Value), h.length ≤ lim i → KeepsB P ops T (lim i) oi v a → wpAnyD P md ops T c lim Q f (listed.setIfInBounds i true) (a.put oi.dst v) h →
      (∀ u, c i = some (some u) → h.length ≤ lim i ∧ KeepsB P ops T (lim i) oi u a ∧ wpAnyD P md ops T c lim Q f (listed.setIfInBounds i true) (a.put oi.dst u) h) ∧
      (c i = some none → ∃ u, KeepsF P ops T h oi u a ∧ wpAnyD P md ops T c lim Q f (listed.setIfInBounds i true) (a.put oi.dst u) h) ∧
      (c i = none → ∃ V : Value → Prop, KeepsD P ops T h V oi a ∧ ∀ u, V u → wpAnyD P md ops T c lim Q f (listed.setIfInBounds i true) (a.put oi.dst u) (h ++ [u])) := by
    intro f listed a h hl hy H
    refine ⟨fun u hu => ?_, fun hn => by rw [hci] at hn; simp at hn, fun hn => by rw [hci] at hn; cases hn⟩
    rw [hci] at hu
    simp at hu
    subst hu
    exact ⟨hl, hy, H⟩
  induction fuel with
  | zero =>
    intro listed a h hcl hcnt _ hr hy H
    refine ⟨fun h => (by rw [h] at hr; cases hr), fun j hj oj hoj => ?_⟩
    by_cases hji : j = i
    · subst hji
      obtain rfl := Option.some.inj (hi.symm.trans hoj)
      exact atI 0 listed a h (by omega) hy H
    · have := ready_mono hj hji
      rw [H.1] at this
      cases this
  | succ fuel ih =>
    intro listed a h hcl hcnt hfree hr hy H
    refine ⟨fun h => (by rw [h] at hr; cases hr), fun j hj oj hoj => ?_⟩
    by_cases hji : j = i
    · subst hji
      obtain rfl := Option.some.inj (hi.symm.trans hoj)
      exact atI (fuel + 1) listed a h (by omega) hy H
    · obtain ⟨hF, hG, hD⟩ := H.2 j (ready_mono hj hji) oj hoj
      obtain ⟨hjun, oj', hoj', hall⟩ := mem_ready.1 hj
      obtain rfl := Option.some.inj (hoj.symm.trans hoj')
      have hiun := (mem_ready.1 hr).1
      have hnot : ∀ e ∈ oj.after, Region.binds md e = true → e.on ≠ i := fun e he hb heq => by
        have h1 := hall e he hb
        rw [heq, getD_both hiun] at h1
        cases h1
      have hap := hfree j oj hoj hji hjun hnot
      obtain ⟨a1, a2, a3⟩ := Oper.apart_spec hap
      have hsi := fun cs b => hsel i oi cs b hi
      have hsj := fun cs b => hsel j oj cs b hoj
      have hfree' : ∀ k ok, ops[k]? = some ok → k ≠ i → (listed.setIfInBounds j true).getD k true = false →
          (∀ e ∈ ok.after, Region.binds md e = true → e.on ≠ i) → oi.apart ops ok = true := fun k ok hk hki hun hno => by
        refine hfree k ok hk hki ?_ hno
        by_cases hjk : j = k
        · subst hjk; exact hjun
        · rw [getD_set_ne true hjk] at hun; exact hun
      have hcnt' : h.length + before md ops i (listed.setIfInBounds j true) ds ≤ lim i := Nat.le_trans (Nat.add_le_add_left before_set _) hcnt
      refine ⟨fun u hu => ?_, fun hn => ?_, fun hn => ?_⟩
      · obtain ⟨hl, hk, hnx⟩ := hF u hu
        refine ⟨hl, hk.of_same (execOp_put oj hsj a oi.dst v a1).symm (wanted_put oj a oi.dst v a1).symm, ?_⟩
        refine ih (listed.setIfInBounds j true) (a.put oj.dst u) h (hcl.set hj) hcnt' hfree' (ready_mono hr (Ne.symm hji)) (hy.of_same (execOp_put oi hsi a oj.dst u a3) (wanted_put oi a oj.dst u a3)) ?_
        rw [Array.setIfInBounds_comm _ _ hji, ← Act.put_comm a v u a2]
        exact hnx
      · obtain ⟨u, hk, hnx⟩ := hG hn
        refine ⟨u, hk.of_same (execOp_put oj hsj a oi.dst v a1).symm (wanted_put oj a oi.dst v a1).symm, ?_⟩
        refine ih (listed.setIfInBounds j true) (a.put oj.dst u) h (hcl.set hj) hcnt' hfree' (ready_mono hr (Ne.symm hji)) (hy.of_same (execOp_put oi hsi a oj.dst u a3) (wanted_put oi a oj.dst u a3)) ?_
        rw [Array.setIfInBounds_comm _ _ hji, ← Act.put_comm a v u a2]
        exact hnx
      · obtain ⟨V, hk, hnx⟩ := hD hn
        refine ⟨V, hk.of_same (execOp_put oj hsj a oi.dst v a1).symm (wanted_put oj a oi.dst v a1).symm, fun u hu => ?_⟩
        have hw : waits md ops i ops.size j = false := by
          cases hw : waits md ops i ops.size j
          · rfl
          · exact absurd hall (waits_not hcl hiun _ j oj hoj hw)
        have hb := before_take (md := md) (ops := ops) (i := i) (hds j hn) hjun hw
        refine ih (listed.setIfInBounds j true) (a.put oj.dst u) (h ++ [u]) (hcl.set hj) (by rw [List.length_append, List.length_singleton]; omega) hfree' (ready_mono hr (Ne.symm hji)) (hy.of_same (execOp_put oi hsi a oj.dst u a3) (wanted_put oi a oj.dst u a3)) ?_
        rw [Array.setIfInBounds_comm _ _ hji, ← Act.put_comm a v u a2]
        exact hnx u hu
/-- One that hangs on the stage can be taken first. -/
theorem firstG {v : Value} (hi : ops[i]? = some oi) (hci : c i = some none) (hsel : ∀ (j : Nat) (o : Oper) cs b, ops[j]? = some o → o.op ≠ .select cs b) :
    ∀ (fuel : Nat) (listed : Array Bool) (a : Act) (h : List Value),
      (∀ j oj, ops[j]? = some oj → j ≠ i → listed.getD j true = false → (∀ e ∈ oj.after, Region.binds md e = true → e.on ≠ i) → oi.apart ops oj = true) →
      i ∈ Region.ready md ops listed → KeepsF P ops T h oi v a →
      wpAnyD P md ops T c lim Q fuel (listed.setIfInBounds i true) (a.put oi.dst v) h → wpAnyD P md ops T c lim Q (fuel + 1) listed a h := by
  intro fuel
  have atI : ∀ (f : Nat) (listed : Array Bool) (a : Act) (h : List Value), KeepsF P ops T h oi v a → wpAnyD P md ops T c lim Q f (listed.setIfInBounds i true) (a.put oi.dst v) h →
      (∀ u, c i = some (some u) → h.length ≤ lim i ∧ KeepsB P ops T (lim i) oi u a ∧ wpAnyD P md ops T c lim Q f (listed.setIfInBounds i true) (a.put oi.dst u) h) ∧
      (c i = some none → ∃ u, KeepsF P ops T h oi u a ∧ wpAnyD P md ops T c lim Q f (listed.setIfInBounds i true) (a.put oi.dst u) h) ∧
      (c i = none → ∃ V : Value → Prop, KeepsD P ops T h V oi a ∧ ∀ u, V u → wpAnyD P md ops T c lim Q f (listed.setIfInBounds i true) (a.put oi.dst u) (h ++ [u])) := by
    intro f listed a h hy H
    exact ⟨fun u hu => by rw [hci] at hu; simp at hu, fun hn => ⟨v, hy, H⟩, fun hn => by rw [hci] at hn; cases hn⟩
  induction fuel with
  | zero =>
    intro listed a h _ hr hy H
    refine ⟨fun h => (by rw [h] at hr; cases hr), fun j hj oj hoj => ?_⟩
    by_cases hji : j = i
    · subst hji
      obtain rfl := Option.some.inj (hi.symm.trans hoj)
      exact atI 0 listed a h hy H
    · have := ready_mono hj hji
      rw [H.1] at this
      cases this
  | succ fuel ih =>
    intro listed a h hfree hr hy H
    refine ⟨fun h => (by rw [h] at hr; cases hr), fun j hj oj hoj => ?_⟩
    by_cases hji : j = i
    · subst hji
      obtain rfl := Option.some.inj (hi.symm.trans hoj)
      exact atI (fuel + 1) listed a h hy H
    · obtain ⟨hF, hG, hD⟩ := H.2 j (ready_mono hj hji) oj hoj
      obtain ⟨hjun, oj', hoj', hall⟩ := mem_ready.1 hj
      obtain rfl := Option.some.inj (hoj.symm.trans hoj')
      have hiun := (mem_ready.1 hr).1
      have hnot : ∀ e ∈ oj.after, Region.binds md e = true → e.on ≠ i := fun e he hb heq => by
        have h1 := hall e he hb
        rw [heq, getD_both hiun] at h1
        cases h1
      have hap := hfree j oj hoj hji hjun hnot
      obtain ⟨a1, a2, a3⟩ := Oper.apart_spec hap
      have hsi := fun cs b => hsel i oi cs b hi
      have hsj := fun cs b => hsel j oj cs b hoj
      have hfree' : ∀ k ok, ops[k]? = some ok → k ≠ i → (listed.setIfInBounds j true).getD k true = false →
          (∀ e ∈ ok.after, Region.binds md e = true → e.on ≠ i) → oi.apart ops ok = true := fun k ok hk hki hun hno => by
        refine hfree k ok hk hki ?_ hno
        by_cases hjk : j = k
        · subst hjk; exact hjun
        · rw [getD_set_ne true hjk] at hun; exact hun
      refine ⟨fun u hu => ?_, fun hn => ?_, fun hn => ?_⟩
      · obtain ⟨hl, hk, hnx⟩ := hF u hu
        refine ⟨hl, hk.of_same (execOp_put oj hsj a oi.dst v a1).symm (wanted_put oj a oi.dst v a1).symm, ?_⟩
        refine ih (listed.setIfInBounds j true) (a.put oj.dst u) h hfree' (ready_mono hr (Ne.symm hji)) (hy.of_same (execOp_put oi hsi a oj.dst u a3) (wanted_put oi a oj.dst u a3)) ?_
        rw [Array.setIfInBounds_comm _ _ hji, ← Act.put_comm a v u a2]
        exact hnx
      · obtain ⟨u, hk, hnx⟩ := hG hn
        refine ⟨u, hk.of_same (execOp_put oj hsj a oi.dst v a1).symm (wanted_put oj a oi.dst v a1).symm, ?_⟩
        refine ih (listed.setIfInBounds j true) (a.put oj.dst u) h hfree' (ready_mono hr (Ne.symm hji)) (hy.of_same (execOp_put oi hsi a oj.dst u a3) (wanted_put oi a oj.dst u a3)) ?_
        rw [Array.setIfInBounds_comm _ _ hji, ← Act.put_comm a v u a2]
        exact hnx
      · obtain ⟨V, hk, hnx⟩ := hD hn
        refine ⟨V, hk.of_same (execOp_put oj hsj a oi.dst v a1).symm (wanted_put oj a oi.dst v a1).symm, fun u hu => ?_⟩
        refine ih (listed.setIfInBounds j true) (a.put oj.dst u) (h ++ [u]) hfree' (ready_mono hr (Ne.symm hji)) ((hy.up u).of_same (execOp_put oi hsi a oj.dst u a3) (wanted_put oi a oj.dst u a3)) ?_
        rw [Array.setIfInBounds_comm _ _ hji, ← Act.put_comm a v u a2]
        exact hnx u hu
theorem firstD {V : Value → Prop} (hi : ops[i]? = some oi) (hci : c i = none) (hsel : ∀ (j : Nat) (o : Oper) cs b, ops[j]? = some o → o.op ≠ .select cs b) :
    ∀ (fuel : Nat) (listed : Array Bool) (a : Act) (h : List Value), Closed md ops listed →
      (∀ j, (∀ v, c j ≠ some (some v)) → j ≠ i → listed.getD j true = false → ∃ f, waits md ops i f j = true) →
      (∀ j oj, ops[j]? = some oj → j ≠ i → listed.getD j true = false → (∀ e ∈ oj.after, Region.binds md e = true → e.on ≠ i) → oi.apart ops oj = true) →
      i ∈ Region.ready md ops listed → KeepsD P ops T h V oi a →
      (∀ v, V v → wpAnyD P md ops T c lim Q fuel (listed.setIfInBounds i true) (a.put oi.dst v) (h ++ [v])) → wpAnyD P md ops T c lim Q (fuel + 1) listed a h := by
  intro fuel
  induction fuel with
  | zero =>
    intro listed a h _ _ _ hr hy H
    refine ⟨fun h => (by rw [h] at hr; cases hr), fun j hj oj hoj => ?_⟩
    by_cases hji : j = i
    · subst hji
      obtain rfl := Option.some.inj (hi.symm.trans hoj)
      exact ⟨fun u hu => absurd (hci.symm.trans hu) (fun e => by cases e), fun hu => absurd (hci.symm.trans hu) (fun e => by cases e), fun _ => ⟨V, hy, H⟩⟩
    · have := ready_mono hj hji
      obtain ⟨v0, hv0⟩ := hy.2.1
      rw [(H v0 hv0).1] at this
      cases this
  | succ fuel ih =>
    intro listed a h hcl hch hfree hr hy H
    refine ⟨fun h => (by rw [h] at hr; cases hr), fun j hj oj hoj => ?_⟩
    by_cases hji : j = i
    · subst hji
      obtain rfl := Option.some.inj (hi.symm.trans hoj)
      exact ⟨fun u hu => absurd (hci.symm.trans hu) (fun e => by cases e), fun hu => absurd (hci.symm.trans hu) (fun e => by cases e), fun _ => ⟨V, hy, H⟩⟩
    · obtain ⟨hjun, oj', hoj', hall⟩ := mem_ready.1 hj
      obtain rfl := Option.some.inj (hoj.symm.trans hoj')
      have hiun := (mem_ready.1 hr).1
      have hnot : ∀ e ∈ oj.after, Region.binds md e = true → e.on ≠ i := fun e he hb heq => by
        have h1 := hall e he hb
        rw [heq, getD_both hiun] at h1
        cases h1
      have hap := hfree j oj hoj hji hjun hnot
      obtain ⟨a1, a2, a3⟩ := Oper.apart_spec hap
      have hsi := fun cs b => hsel i oi cs b hi
      have hsj := fun cs b => hsel j oj cs b hoj
      have keepun : ∀ k, (listed.setIfInBounds j true).getD k true = false → listed.getD k true = false := fun k hun => by
        by_cases hjk : j = k
        · subst hjk; exact hjun
        · rw [getD_set_ne true hjk] at hun; exact hun
      have hfree' : ∀ k ok, ops[k]? = some ok → k ≠ i → (listed.setIfInBounds j true).getD k true = false →
          (∀ e ∈ ok.after, Region.binds md e = true → e.on ≠ i) → oi.apart ops ok = true := fun k ok hk hki hun hno => hfree k ok hk hki (keepun k hun) hno
      refine ⟨fun u hu => ?_, fun hn => ?_, fun hn => ?_⟩
      · have hall2 := fun v hv => ((H v hv).2 j (ready_mono hj hji) oj hoj).1 u hu
        obtain ⟨v0, hv0⟩ := hy.2.1
        have hl0 := (hall2 v0 hv0).1
        rw [List.length_append, List.length_singleton] at hl0
        refine ⟨by omega, (hall2 v0 hv0).2.1.of_same (execOp_put oj hsj a oi.dst v0 a1).symm (wanted_put oj a oi.dst v0 a1).symm, ?_⟩
        refine ih (listed.setIfInBounds j true) (a.put oj.dst u) h (hcl.set hj) (fun k hk hki hun => hch k hk hki (keepun k hun)) hfree' (ready_mono hr (Ne.symm hji)) (hy.of_same (execOp_put oi hsi a oj.dst u a3) (wanted_put oi a oj.dst u a3)) (fun v hv => ?_)
        rw [Array.setIfInBounds_comm _ _ hji, ← Act.put_comm a v u a2]
        exact (hall2 v hv).2.2
      · obtain ⟨f, hw⟩ := hch j (fun v hv => by rw [hn] at hv; cases hv) hji hjun
        exact absurd hall (waits_not hcl hiun f j oj hoj hw)
      · obtain ⟨f, hw⟩ := hch j (fun v hv => by rw [hn] at hv; cases hv) hji hjun
        exact absurd hall (waits_not hcl hiun f j oj hoj hw)
end
/-- The walk in the order of the text; of the operations of one value the list says up to how many steps they yield it. -/
def wpLexD (P : Program) (ops : Array Oper) (T : List Value → World → Prop) (Q : Act → List Value → Prop) : List Oper → List (Option (Option Value)) → List Nat → Act → List Value → Prop
  | [], _, _, a, h => Q a h
  | o :: l, some (some v) :: cs, L :: Ls, a, h => KeepsB P ops T L o v a ∧ wpLexD P ops T Q l cs Ls (a.put o.dst v) h
  | o :: l, some none :: cs, _ :: Ls, a, h => ∃ v, KeepsF P ops T h o v a ∧ wpLexD P ops T Q l cs Ls (a.put o.dst v) h
  | o :: l, none :: cs, _ :: Ls, a, h => ∃ V : Value → Prop, KeepsD P ops T h V o a ∧ ∀ v, V v → wpLexD P ops T Q l cs Ls (a.put o.dst v) (h ++ [v])
  | _ :: _, _, _, _, _ => False
/-- The steps that may come ahead of each operation of one value are no more than its number says. -/
def fixB (md : Region.Mode) (ops : Array Oper) (ds : List Nat) : List (Option (Option Value)) → List Nat → Nat → Nat → Bool
  | some (some _) :: cs, L :: Ls, k, m => decide (m + ds.countP (fun j => decide (k ≤ j) && !waits md ops k ops.size j) ≤ L) && fixB md ops ds cs Ls (k + 1) m
  | some none :: cs, _ :: Ls, k, m => fixB md ops ds cs Ls (k + 1) m
  | none :: cs, _ :: Ls, k, m => fixB md ops ds cs Ls (k + 1) (m + 1)
  | _, _, _, _ => true
/-- Those whose values hang on the world, and those that hang on them, wait for the former that stand ahead of them. -/
def chainD (md : Region.Mode) (ops : Array Oper) (ds gs : List Nat) : Bool :=
  ds.all fun i => gs.all fun j => decide (j ≤ i) || waits md ops i ops.size j
def nones : List (Option (Option Value)) → Nat → List Nat
  | [], _ => []
  | none :: l, k => k :: nones l (k + 1)
  | some _ :: l, k => nones l (k + 1)
def lates : List (Option (Option Value)) → Nat → List Nat
  | [], _ => []
  | none :: l, k => k :: lates l (k + 1)
  | some none :: l, k => k :: lates l (k + 1)
  | some (some _) :: l, k => lates l (k + 1)
theorem nones_mem : ∀ (l : List (Option (Option Value))) (k j : Nat), l[j]? = some none → k + j ∈ nones l k
  | [], k, j, h => by simp at h
  | none :: l, k, 0, h => by simp [nones]
  | none :: l, k, j + 1, h => by
    have := nones_mem l (k + 1) j (by simpa using h)
    rw [nones]
    exact List.mem_cons_of_mem _ (by rwa [show k + (j + 1) = k + 1 + j by omega])
  | some _ :: l, k, 0, h => by simp at h
  | some _ :: l, k, j + 1, h => by
    have := nones_mem l (k + 1) j (by simpa using h)
    rw [nones]
    rwa [show k + (j + 1) = k + 1 + j by omega]
theorem lates_mem : ∀ (l : List (Option (Option Value))) (k j : Nat) (x : Option (Option Value)), l[j]? = some x → (∀ v, x ≠ some (some v)) → k + j ∈ lates l k
  | [], k, j, x, h, _ => by simp at h
  | none :: l, k, 0, x, h, _ => by simp [lates]
  | none :: l, k, j + 1, x, h, hx => by
    have := lates_mem l (k + 1) j x (by simpa using h) hx
    rw [lates]
    exact List.mem_cons_of_mem _ (by rwa [show k + (j + 1) = k + 1 + j by omega])
  | some none :: l, k, 0, x, h, _ => by simp [lates]
  | some none :: l, k, j + 1, x, h, hx => by
    have := lates_mem l (k + 1) j x (by simpa using h) hx
    rw [lates]
    exact List.mem_cons_of_mem _ (by rwa [show k + (j + 1) = k + 1 + j by omega])
  | some (some v) :: l, k, 0, x, h, hx => by
    simp at h
    exact absurd h.symm (hx v)
  | some (some _) :: l, k, j + 1, x, h, hx => by
    have := lates_mem l (k + 1) j x (by simpa using h) hx
    rw [lates]
    rwa [show k + (j + 1) = k + 1 + j by omega]
theorem before_le {k : Nat} {listed : Array Bool} {ds : List Nat} (hlt : ∀ j, j < k → listed.getD j true = true) : before md ops k listed ds ≤ ds.countP (fun j => decide (k ≤ j) && !waits md ops k ops.size j) := by
  refine countP_le ds fun x hx => ?_
  simp only [Bool.and_eq_true, Bool.not_eq_true', decide_eq_true_eq] at hx ⊢
  refine ⟨?_, hx.2⟩
  rcases Nat.lt_or_ge x k with h | h
  · rw [hlt x h] at hx; simp at hx
  · exact h
theorem lexD {c : Nat → Option (Option Value)} {lim : Nat → Nat} {Q : Act → List Value → Prop} {ds : List Nat} (hds : ∀ j, c j = none → j ∈ ds) (hs : Region.noSelect ops = true) (hch : ∀ i j, c i = none → (∀ v, c j ≠ some (some v)) → i < j → ∃ f, waits md ops i f j = true) :
    ∀ (l : List Oper) (cs : List (Option (Option Value))) (Ls : List Nat) (k m : Nat) (listed : Array Bool) (a : Act) (h : List Value), (∀ j, l[j]? = ops[k + j]?) → (∀ j x, cs[j]? = some x → c (k + j) = x) → (∀ j x, Ls[j]? = some x → lim (k + j) = x) →
    h.length = m → fixB md ops ds cs Ls k m = true →
    Closed md ops listed → (∀ j, j < k → listed.getD j true = true) →
    Region.lexFrom md ops l.length k listed = true → wpLexD P ops T Q l cs Ls a h → wpAnyD P md ops T c lim Q l.length listed a h
  | [], _, _, _, _, _, _, _, _, _, _, _, _, _, _, hB, H => ⟨by simpa [Region.lexFrom] using hB, by simpa [wpLexD] using H⟩
  | o :: l, [], _, _, _, _, _, _, _, _, _, _, _, _, _, _, H => by simp [wpLexD] at H
  | o :: l, x :: cs, [], _, _, _, _, _, _, _, _, _, _, _, _, _, H => by
    match x, H with
    | some (some v), H => simp [wpLexD] at H
    | some none, H => simp [wpLexD] at H
    | none, H => simp [wpLexD] at H
  | o :: l, x :: cs, L :: Ls, k, m, listed, a, h, hl, hcs, hLs, hm, hfix, hcl, hlt, hB, H => by
    have h0 : ops[k]? = some o := by simpa using (hl 0).symm
    have hck : c k = x := by simpa using hcs 0 x (by simp)
    have hlk : lim k = L := by simpa using hLs 0 L (by simp)
    simp only [List.length_cons, Region.lexFrom, Bool.and_eq_true] at hB
    obtain ⟨⟨hr, hf⟩, hB'⟩ := hB
    have hr' : k ∈ Region.ready md ops listed := by simpa using hr
    have hl' : ∀ j, l[j]? = ops[k + 1 + j]? := fun j => by have := hl (j + 1); simpa [Nat.add_assoc, Nat.add_comm 1 j] using this
    have hcs' : ∀ j y, cs[j]? = some y → c (k + 1 + j) = y := fun j y hy => by
      have := hcs (j + 1) y (by simpa using hy)
      rwa [show k + 1 + j = k + (j + 1) by omega]
    have hLs' : ∀ j y, Ls[j]? = some y → lim (k + 1 + j) = y := fun j y hy => by
      have := hLs (j + 1) y (by simpa using hy)
      rwa [show k + 1 + j = k + (j + 1) by omega]
    have hlt' : ∀ j, j < k + 1 → (listed.setIfInBounds k true).getD j true = true := fun j hj => by
      by_cases e : k = j
      · subst e
        rcases Nat.lt_or_ge k listed.size with h' | h'
        · simp [h']
        · simp [h']
      · rw [getD_set_ne true e]; exact hlt j (by omega)
    match x, hck, H, hfix with
    | some (some v), hck, H, hfix =>
      obtain ⟨hy, hK⟩ := H
      simp only [fixB, Bool.and_eq_true, decide_eq_true_eq] at hfix
      have hb := before_le (md := md) (ops := ops) (ds := ds) hlt
      exact firstB hds h0 hck (Region.noSelect_spec hs) l.length listed a h hcl (by rw [hlk]; omega) (Region.free_spec h0 hf) hr' (by rw [hlk]; exact hy) (lexD hds hs hch l cs Ls (k + 1) m _ _ h hl' hcs' hLs' hm hfix.2 (hcl.set hr') hlt' hB' hK)
    | some none, hck, H, hfix =>
      obtain ⟨v, hy, hK⟩ := H
      exact firstG (v := v) h0 hck (Region.noSelect_spec hs) l.length listed a h (Region.free_spec h0 hf) hr' hy (lexD hds hs hch l cs Ls (k + 1) m _ _ h hl' hcs' hLs' hm (by simpa [fixB] using hfix) (hcl.set hr') hlt' hB' hK)
    | none, hck, H, hfix =>
      obtain ⟨V, hy, hK⟩ := H
      refine firstD h0 hck (Region.noSelect_spec hs) l.length listed a h hcl (fun j hj hjk hun => ?_) (Region.free_spec h0 hf) hr' hy (fun v hv => lexD hds hs hch l cs Ls (k + 1) (m + 1) _ _ (h ++ [v]) hl' hcs' hLs' (by rw [List.length_append, List.length_singleton, hm]) (by simpa [fixB] using hfix) (hcl.set hr') hlt' hB' (hK v hv))
      refine hch k j hck hj ?_
      rcases Nat.lt_or_ge k j with h1 | h1
      · exact h1
      · have := hlt j (by omega)
        rw [hun] at this; cases this
/-- The region. -/
theorem wp_region_h {id : Nat} {Q : Exit → Act → World → Prop} {a : Act} {w : World} {l : List Oper} (T : List Value → World → Prop) (cs : List (Option (Option Value))) (Ls : List Nat) (hm : P.follows .mixedOrders = true) (hB : Region.lexB .any l.toArray = true) (ds gs : List Nat) (hds : nones cs 0 = ds) (hgs : lates cs 0 = gs) (hD : chainD .any l.toArray ds gs = true) (hX : fixB .any l.toArray ds cs Ls 0 0 = true) (hS : T [] w.drew)
    (h : wpLexD P l.toArray T (fun a' h' => ∀ w', T h' w' → Q .normal a' w') l cs Ls a []) : (Code.region id l.toArray true).wp P Q a w := by
  simp only [Region.lexB, Bool.and_eq_true] at hB
  refine wp_region_any hm (wpAny_of_D (T := T) (c := fun k => (cs[k]?).getD (some (some undef))) (lim := fun k => (Ls[k]?).getD 0) (Q := fun a' h' => ∀ w', T h' w' → Q .normal a' w') (fun _ _ h => h) _ _ _ [] _ hS ?_)
  have mds : ∀ i, (cs[i]?).getD (some (some undef)) = none → i ∈ ds := by
    intro i hi
    rw [← hds]
    cases hx : cs[i]? with
    | none => rw [hx] at hi; cases hi
    | some x =>
      rw [hx] at hi
      have := nones_mem cs 0 i (by rw [hx]; exact congrArg some hi)
      rwa [Nat.zero_add] at this
  have hch : ∀ i j, (cs[i]?).getD (some (some undef)) = none → (∀ v, (cs[j]?).getD (some (some undef)) ≠ some (some v)) → i < j → ∃ f, waits .any l.toArray i f j = true := by
    intro i j hi hj hij
    have mi : i ∈ ds := mds i hi
    have mj : j ∈ gs := by
      rw [← hgs]
      cases hx : cs[j]? with
      | none => rw [hx] at hj; exact absurd rfl (hj undef)
      | some x =>
        rw [hx] at hj
        have := lates_mem cs 0 j x hx hj
        rwa [Nat.zero_add] at this
    unfold chainD at hD
    have h1 := List.all_eq_true.1 (List.all_eq_true.1 hD i mi) j mj
    simp only [Bool.or_eq_true, decide_eq_true_eq] at h1
    rcases h1 with h1 | h1
    · omega
    · exact ⟨_, h1⟩
  have := lexD (md := .any) (T := T) (lim := fun k => (Ls[k]?).getD 0) mds hB.1 hch l cs Ls 0 0 (Array.replicate l.toArray.size false) a [] (by simp) (fun j x hx => by simp [hx]) (fun j x hx => by simp [hx]) rfl hX (fun k o hk => by simp [Array.getElem?_replicate] at hk; split at hk <;> simp at hk) (fun j hj => by omega) (by simpa using hB.2) h
  simpa using this
/-- One value, at all stages of at most L steps. -/
theorem gF_step {Q : Act → List Value → Prop} {o : Oper} {l : List Oper} {v : Value} {cs : List (Option (Option Value))} {L : Nat} {Ls : List Nat} {a : Act} {h : List Value} (hw : Region.wanted o (yielded ops a.tmps) = true)
    (hk : ∀ (h : List Value) (w : World) (K : Value → World → Prop), h.length ≤ L → T h w → (∀ w', T h w' → K v w') → kUpon P K ((execOp a.eval o).run P w)) (hn : wpLexD P ops T Q l cs Ls (a.put o.dst v) h) : wpLexD P ops T Q (o :: l) (some (some v) :: cs) (L :: Ls) a h := ⟨.inl ⟨hw, hk⟩, hn⟩
theorem gF_not {Q : Act → List Value → Prop} {o : Oper} {l : List Oper} {cs : List (Option (Option Value))} {L : Nat} {Ls : List Nat} {a : Act} {h : List Value} (hw : Region.wanted o (yielded ops a.tmps) = false) (hn : wpLexD P ops T Q l cs Ls (a.put o.dst undef) h) : wpLexD P ops T Q (o :: l) (some (some undef) :: cs) (L :: Ls) a h := ⟨.inr ⟨hw, rfl⟩, hn⟩
/-- A value that hangs on those before, from this stage on. -/
theorem gG_step {Q : Act → List Value → Prop} {o : Oper} {l : List Oper} {v : Value} {cs : List (Option (Option Value))} {L : Nat} {Ls : List Nat} {a : Act} {h : List Value} (hw : Region.wanted o (yielded ops a.tmps) = true)
    (hk : ∀ (h' : List Value) (w : World) (K : Value → World → Prop), T (h ++ h') w → (∀ w', T (h ++ h') w' → K v w') → kUpon P K ((execOp a.eval o).run P w)) (hn : wpLexD P ops T Q l cs Ls (a.put o.dst v) h) : wpLexD P ops T Q (o :: l) (some none :: cs) (L :: Ls) a h := ⟨v, .inl ⟨hw, hk⟩, hn⟩
theorem gG_not {Q : Act → List Value → Prop} {o : Oper} {l : List Oper} {cs : List (Option (Option Value))} {L : Nat} {Ls : List Nat} {a : Act} {h : List Value} (hw : Region.wanted o (yielded ops a.tmps) = false) (hn : wpLexD P ops T Q l cs Ls (a.put o.dst undef) h) : wpLexD P ops T Q (o :: l) (some none :: cs) (L :: Ls) a h := ⟨undef, .inr ⟨hw, rfl⟩, hn⟩
/-- A value that hangs on the world, of the kind V. -/
theorem gD_step {Q : Act → List Value → Prop} {o : Oper} {l : List Oper} {cs : List (Option (Option Value))} {L : Nat} {Ls : List Nat} {a : Act} {h : List Value} (V : Value → Prop) (hV : ∃ v, V v) (hw : Region.wanted o (yielded ops a.tmps) = true)
    (hk : ∀ (w : World) (K : Value → World → Prop), T h w → (∀ v w', V v → T (h ++ [v]) w' → K v w') → kUpon P K ((execOp a.eval o).run P w)) (hn : ∀ v, V v → wpLexD P ops T Q l cs Ls (a.put o.dst v) (h ++ [v])) : wpLexD P ops T Q (o :: l) (none :: cs) (L :: Ls) a h := ⟨V, ⟨hw, hV, hk⟩, hn⟩
/-- One whose value is v, at this stage alone. -/
theorem gE_step {Q : Act → List Value → Prop} {o : Oper} {l : List Oper} {v : Value} {cs : List (Option (Option Value))} {L : Nat} {Ls : List Nat} {a : Act} {h : List Value} (hw : Region.wanted o (yielded ops a.tmps) = true)
    (hk : ∀ (w : World) (K : Value → World → Prop), T h w → (∀ w', T (h ++ [v]) w' → K v w') → kUpon P K ((execOp a.eval o).run P w)) (hn : wpLexD P ops T Q l cs Ls (a.put o.dst v) (h ++ [v])) : wpLexD P ops T Q (o :: l) (none :: cs) (L :: Ls) a h :=
  ⟨fun x => x = v, ⟨hw, ⟨v, rfl⟩, fun w K hT hK => hk w K hT (fun w' => hK v w' rfl)⟩, fun x hx => by subst hx; exact hn⟩
theorem g_nil {Q : Act → List Value → Prop} {cs : List (Option (Option Value))} {Ls : List Nat} {a : Act} {h : List Value} (hq : Q a h) : wpLexD P ops T Q [] cs Ls a h := by simpa [wpLexD] using hq
end
end Go.Proofs.YtkinpbhbgeiflaaDoor.Rh
