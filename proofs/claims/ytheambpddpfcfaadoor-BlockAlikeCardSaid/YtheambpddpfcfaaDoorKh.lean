/- block.Signature's Check. -/
import Derived.Test.YtheambpddpfcfaaDoorKe
import Derived.Test.YtheambpddpfcfaaDoorRw
import Derived.Test.YtheambpddpfcfaaDoorKg
import Derived.StillTailTactics
namespace Go.Proofs.YtheambpddpfcfaaDoor.Kh
set_option linter.unusedVariables false
set_option linter.unusedSimpArgs false
set_option maxRecDepth 100000
open Go.ChangeShapes Go.WideShapes Go.ChangeAt Go.RowKit
open Go.Proofs.YtheambpddpfcfaaDoor.Wu Go.Proofs.YtheambpddpfcfaaDoor.Sm Go.Proofs.YtheambpddpfcfaaDoor.Sh Go.Proofs.YtheambpddpfcfaaDoor.Ba Go.Proofs.YtheambpddpfcfaaDoor.Bp Go.Proofs.YtheambpddpfcfaaDoor.Ka Go.Proofs.YtheambpddpfcfaaDoor.Kb Go.Proofs.YtheambpddpfcfaaDoor.Kc Go.Proofs.YtheambpddpfcfaaDoor.Kd Go.Proofs.YtheambpddpfcfaaDoor.Ke Go.Proofs.YtheambpddpfcfaaDoor.Rk Go.Proofs.YtheambpddpfcfaaDoor.Rw Go.Proofs.YtheambpddpfcfaaDoor.Rb1 Go.Proofs.YtheambpddpfcfaaDoor.Kg
open Go.Proofs.YtheambpddpfcfaaDoor.Su (cutL Cnt)
attribute [local go_sem] kUpon_value kUpon_skip kUpon_enter
/-- Nothing counts behind the cut. -/
def Blk.clean (k : Nat) (b : Blk) : Prop := b.s = cutL k b.s
instance (k : Nat) (b : Blk) : Decidable (Blk.clean k b) := by unfold Blk.clean; infer_instance
/-- Why these can't be a file's sums. -/
def checkE (sz cut len : Int) (bs : List Blk) : Int := if fitsE sz cut len ≠ 0 then fitsE sz cut len else if (bs.length : Int) ≠ cntZ len sz then 31 else if ∀ b ∈ bs, Blk.clean cut.toNat b then 0 else 31
theorem check_bad (w : World) (sz cut len : Int) (v : Value) (bs : List Blk) (hv1 : v.oneCell' = true) (hl : len ≤ 9223372036854775807) (h : fitsE sz cut len ≠ 0) :
    Calls Tryd.prog 22 #[sigV sz cut len v] w fun e w' => e = .returned (.int .i64 (checkE sz cut len bs)) ∧ Below w.heap.size w w' := by
  unfold checkE
  rw [if_pos h]
  have HC := hide (fits_c (w.alloc (.cells #[.int .i64 sz, .int .i64 cut, .int .i64 len, v] 26)) sz cut len v hv1 hl)
  have HB := hide (below_new w (.cells #[.int .i64 sz, .int .i64 cut, .int .i64 len, v] 26))
  have hb : (fitsE sz cut len != 0) = true := by simpa using h
  generalize fitsE sz cut len = z at *
  clear h hl
  unfold sigV at HC ⊢
  go_enter Tryd.func22, Tryd.ntmps22
  go_wp2_with fail
  generalize (w.alloc (.cells #[.int .i64 sz, .int .i64 cut, .int .i64 len, v] 26)) = w1 at *
  refine HC.out.mono ?_
  rintro e w2 ⟨rfl, hb2⟩
  have HB2 := hide (keepB hb2 (Nat.le_refl _) HB.out)
  clear hb2 HB HC
  go_wp2
  go_ret
  exact ⟨rfl, HB2.out⟩
theorem check_len (w : World) (sz cut len : Int) (a : Option Addr) (m c : Nat) (bs : List Blk) (hm : m = bs.length) (hl : len ≤ 9223372036854775807) (hmm : m ≤ 9223372036854775807) (h : fitsE sz cut len = 0) (hn : (m : Int) ≠ cntZ len sz) :
    Calls Tryd.prog 22 #[sigV sz cut len (.slice a m c)] w fun e w' => e = .returned (.int .i64 (checkE sz cut len bs)) ∧ Below w.heap.size w w' := by
  unfold checkE
  rw [if_neg (by rw [h]; simp), if_pos (by rw [← hm]; exact hn)]
  clear hm
  have HC := hide (fits_c (w.alloc (.cells #[.int .i64 sz, .int .i64 cut, .int .i64 len, .slice a m c] 26)) sz cut len (.slice a m c) rfl hl)
  have HN := hide (fun u : World => count_c u len sz hl)
  have HB := hide (below_new w (.cells #[.int .i64 sz, .int .i64 cut, .int .i64 len, .slice a m c] 26))
  have HS := hide (heap_last w (.cells #[.int .i64 sz, .int .i64 cut, .int .i64 len, .slice a m c] 26))
  rw [h] at HC
  generalize cntZ len sz = n at *
  have e1 : ((m : Int) != n) = true := by simpa using hn
  clear h hl hn
  unfold sigV at HC ⊢
  go_enter Tryd.func22, Tryd.ntmps22
  go_wp2_with fail
  generalize (w.alloc (.cells #[.int .i64 sz, .int .i64 cut, .int .i64 len, .slice a m c] 26)) = w1 at *
  refine HC.out.mono ?_
  rintro e w2 ⟨rfl, hb2⟩
  have HB2 := hide (keepB hb2 (Nat.le_refl _) HB.out)
  have HS2 := hide (below_blk hb2 (heap_lt HS.out) HS.out)
  clear hb2 HB HC HS
  go_wp2_with fail
  refine wp_region_keep (fun u => u.heap[w.heap.size]? = some (.cells #[.int .i64 sz, .int .i64 cut, .int .i64 len, .slice a m c] 26 (0, 0)) ∧ Below w.heap.size w u) (by kernel_rfl) (by kernel_rfl) ⟨HS2.out, HB2.out.drew⟩ ?_
  repeat (first
    | (refine keep_step (v := ?_) (by rfl) (fun u K hS hK => ?_) ?_
       rotate_left
       · obtain ⟨c0, c1, c2, c3⟩ := Sig4.cells (T := 26) hS.1
         (go_simp; first
           | (go_at_call 31; refine (HN.out _).mono ?_; rintro e u2 ⟨rfl, rfl⟩; exact hK _ hS)
           | (with_reducible exact hK _ hS))
       simp only [Act.put, List.setIfInBounds_toArray, List.set_cons_zero, List.set_cons_succ]))
  refine keep_nil (fun w3 hS3 => ?_)
  have HB3 := hide hS3.2
  clear hS3
  go_wp2
  go_ret
  exact ⟨rfl, HB3.out⟩
theorem built_w (x : Nat) : Tryd.prog.built 63 [(0, .int .u32 (x : Int))] = some (blkC .u32 ⟨x, zeros 32⟩).toArray := by
  refine built_struct 63 _ _ _ [(0, 1), (1, 32)] (blkC .u32 ⟨0, zeros 32⟩) zero_blk Tryd.underlying63 (by kernel_rfl) rfl _ ?_
  have h0 : (blkC .u32 ⟨0, zeros 32⟩).length = 33 := by simp [blkC, b8_length, zeros_length]
  rw [fill_step _ _ [.int .u32 (x : Int)] 0 0 1 _ _ rfl rfl rfl (by omega), fill_nil]
  rfl
theorem sliceAllAt (u : World) (B o : Nat) :
    Sem.run Tryd.prog (Instr.sliceAt 61 (.pointer (some ⟨B, o, none⟩)) none none none) u = .ok (.slice (some ⟨B, o, none⟩) 32 32) u := by
  rw [run_sliceAt_array_all u 61 ⟨B, o, none⟩ (by rw [Sf.alenS, Sf.aelemS]; exact Tryd.underlying61), Sf.aelemS, size_u8, Sf.alenS]
  simp only [Result.andThen, slicedAt, Nat.mul_one]
  rw [if_neg (by omega), Addr.add_mid, Nat.add_zero]
theorem sliceHAt (u : World) (B o k : Nat) (hk : k ≤ 32) :
    Sem.run Tryd.prog (Instr.sliceAt 61 (.pointer (some ⟨B, o, none⟩)) none (some (.int .i64 (k : Int))) none) u = .ok (.slice (some ⟨B, o, none⟩) k 32) u := by
  rw [run_sliceAt_array_h u 61 ⟨B, o, none⟩ (by rw [Sf.alenS, Sf.aelemS]; exact Tryd.underlying61) .i64 _ (by omega) (by rw [Sf.alenS]; omega), Sf.aelemS, size_u8, Sf.alenS]
  simp only [Result.andThen, slicedAt, Int.toNat_natCast, Nat.mul_one]
  rw [if_neg (by omega), Addr.add_mid]
  simp
theorem cut_row (q : IntKind) (k x : Nat) (s : List Nat) (hk : k ≤ 32) (hs : s.length = 32) : ((blkC q ⟨x, zeros 32⟩).toArray.toList.take 1 ++ (b8 (s.take k) ++ (blkC q ⟨x, zeros 32⟩).toArray.toList.drop (1 + (b8 (s.take k)).length))).toArray = (blkC q ⟨x, cutL k s⟩).toArray := by
  have h1 : (b8 (s.take k)).length = k := by rw [b8_length, List.length_take, hs, Nat.min_eq_left hk]
  have h2 : (b8 (zeros 32)).drop k = b8 (zeros (32 - k)) := by unfold b8 zeros; rw [← List.map_drop, List.drop_replicate]
  have h3 : b8 (cutL k s) = b8 (s.take k) ++ b8 (zeros (32 - k)) := by unfold cutL b8; rw [List.map_append]; rfl
  have h4 : (blkC q ⟨x, zeros 32⟩).toArray.toList = .int q (x : Int) :: b8 (zeros 32) := rfl
  have h5 : blkC q ⟨x, cutL k s⟩ = .int q (x : Int) :: b8 (cutL k s) := rfl
  rw [h1, h4, h5, h3, Nat.add_comm 1 k, List.drop_succ_cons, h2, List.take_succ_cons, List.take_zero]
  simp only [List.cons_append, List.nil_append]
end Go.Proofs.YtheambpddpfcfaaDoor.Kh
