/- SumCut's walk. -/
import Derived.Test.YtofflmhfffphdaaDoorSg
import Derived.Test.YtofflmhfffphdaaDoorSct
import Derived.Test.YtofflmhfffphdaaDoorBs
namespace Go.Proofs.YtofflmhfffphdaaDoor.SumCutW
set_option linter.unusedVariables false
set_option linter.unusedSimpArgs false
set_option maxRecDepth 100000
open Go.ChangeShapes Go.WideShapes Go.ChangeAt Go.RowKit
open Go.Proofs.YtofflmhfffphdaaDoor.Wu Go.Proofs.YtofflmhfffphdaaDoor.Sm Go.Proofs.YtofflmhfffphdaaDoor.Sk Go.Proofs.YtofflmhfffphdaaDoor.Sc Go.Proofs.YtofflmhfffphdaaDoor.Sxa Go.Proofs.YtofflmhfffphdaaDoor.Sh Go.Proofs.YtofflmhfffphdaaDoor.Sn Go.Proofs.YtofflmhfffphdaaDoor.Sw0 Go.Proofs.YtofflmhfffphdaaDoor.Sx Go.Proofs.YtofflmhfffphdaaDoor.Sw Go.Proofs.YtofflmhfffphdaaDoor.Sb Go.Proofs.YtofflmhfffphdaaDoor.Sf Go.Proofs.YtofflmhfffphdaaDoor.So Go.Proofs.YtofflmhfffphdaaDoor.Su Go.Proofs.YtofflmhfffphdaaDoor.St Go.Proofs.YtofflmhfffphdaaDoor.Sg Go.Proofs.YtofflmhfffphdaaDoor.Sv Go.Proofs.YtofflmhfffphdaaDoor.Sct Go.Proofs.YtofflmhfffphdaaDoor.Sr Go.Proofs.YtofflmhfffphdaaDoor.Rk
attribute [local go_sem] kUpon_value kUpon_skip kUpon_enter

theorem src_cut {w : World} {a : Option Addr} {n k : Nat} {L : List Nat} (h : SrcB w a n L) (hk : k ≤ n) : SrcB w a k (L.take k) := by
  obtain ⟨hl, h8, b, off, ha, hc⟩ := h
  refine ⟨by rw [List.length_take]; omega, fun x hx => h8 x (List.mem_of_mem_take hx), b, off, fun h0 => ha (by omega), fun i hi => ?_⟩
  rw [hc i (by omega)]
  simp [List.getD, List.getElem?_take_of_lt hi]
set_option maxHeartbeats 800000 in
theorem walk (n : Int) (k : Nat) (a : Option Addr) (m c : Nat) (L : List Nat) (w : World) (hk : Cnt n k) (hs : SrcB w a m L) (hc : m ≤ c) (hT : Tbl w) (hF : Fst w) (hn : n ≤ 9223372036854775807) :
    Calls Tryd.prog 4 #[.int .i64 n, .slice a m c] w fun e w' => e = .returned (.bool true) ∧ Below w.heap.size w w' := by
  have HKN := hide (known_c w hT hF)
  obtain ⟨j, hj⟩ : ∃ j : Nat, (m ≤ 300 ∧ j = m) ∨ (300 < m ∧ j = 300) := ⟨min m 300, by omega⟩
  have hsj := src_cut hs (show j ≤ m by omega)
  have hk32 : k ≤ 32 := by unfold Cnt at hk; omega
  have HC := hide (fun (u : World) (hu : Below w.heap.size w u) => cut_c n k a j c (L.take j) u hk (hsj.below hu) (by omega) (tbl_keep hT hu (Nat.le_refl _)) (fst_keep hF hu (Nat.le_refl _)) (by omega))
  have hl := hsj.1
  have HRf := hide (fun (u : World) => refCut_c n k (L.take j) u hk hsj.2.1 (by omega) hn)
  have HCV : Hid (∀ u : World, Below w.heap.size w u → Sem.run Tryd.prog (convert 31 9 (.slice a j c)) u = .ok (.string (strN (L.take j))) u) := hide (fun u hu => Bs.conv_src (hsj.below hu))
  have hq := sum_same (cutL k (sha (L.take j))) (cutL_length _ _ hk32 (sha_length _))
  generalize cutL k (sha (L.take j)) = X at *
  generalize strN (L.take j) = T at *
  clear hT hF hs hsj hk hl
  rcases hj with ⟨hm, rfl⟩ | ⟨hm, rfl⟩
  · have hmi : min (j : Int) 300 = (j : Int) := by omega
    go_enter Tryd.func4, Tryd.ntmps4
    go_wp2_with fail
    refine HKN.out.mono ?_
    rintro e w1 ⟨rfl, hb1⟩
    have HB1 := hide hb1
    clear hb1 HKN
    go_wp2_with fail
    clear hmi
    all_goals first | (exfalso; omega) | skip
    refine wp_region_keep (fun u => Below w.heap.size w u) (by kernel_rfl) (by kernel_rfl) HB1.out.drew ?_
    repeat (first
      | (refine keep_step (v := ?_) (by rfl) (fun u K hS hK => ?_) ?_
         rotate_left
         · (go_simp; first
            | (go_at_call 18; refine (HC.out _ hS).mono ?_; rintro e u2 ⟨rfl, hu⟩; exact hK _ (keepB hu (Nat.le_refl _) hS))
            | (go_at_call 19; refine (HRf.out _).mono ?_; rintro e u2 ⟨rfl, hu⟩; exact hK _ (keepB hu (Nat.le_refl _) hS))
            | (rw [HCV.out _ hS]; go_simp; exact hK _ hS)
            | (with_reducible exact hK _ hS))
         simp only [Act.put, List.setIfInBounds_toArray, List.set_cons_zero, List.set_cons_succ]))
    refine keep_nil (fun w3 hS3 => ?_)
    have HB3 := hide hS3
    clear hS3
    go_wp2
    go_ret
    exact ⟨rfl, HB3.out⟩
  · have hmi : min (m : Int) 300 = 300 := by omega
    go_enter Tryd.func4, Tryd.ntmps4
    go_wp2_with fail
    refine HKN.out.mono ?_
    rintro e w1 ⟨rfl, hb1⟩
    have HB1 := hide hb1
    clear hb1 HKN
    go_wp2_with fail
    clear hmi
    all_goals first | (exfalso; omega) | skip
    refine wp_region_keep (fun u => Below w.heap.size w u) (by kernel_rfl) (by kernel_rfl) HB1.out.drew ?_
    repeat (first
      | (refine keep_step (v := ?_) (by rfl) (fun u K hS hK => ?_) ?_
         rotate_left
         · (go_simp; first
            | (go_at_call 18; refine (HC.out _ hS).mono ?_; rintro e u2 ⟨rfl, hu⟩; exact hK _ (keepB hu (Nat.le_refl _) hS))
            | (go_at_call 19; refine (HRf.out _).mono ?_; rintro e u2 ⟨rfl, hu⟩; exact hK _ (keepB hu (Nat.le_refl _) hS))
            | (rw [HCV.out _ hS]; go_simp; exact hK _ hS)
            | (with_reducible exact hK _ hS))
         simp only [Act.put, List.setIfInBounds_toArray, List.set_cons_zero, List.set_cons_succ]))
    refine keep_nil (fun w3 hS3 => ?_)
    have HB3 := hide hS3
    clear hS3
    go_wp2
    go_ret
    exact ⟨rfl, HB3.out⟩
end Go.Proofs.YtofflmhfffphdaaDoor.SumCutW
