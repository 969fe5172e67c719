/- The reference's Cut. -/
import Derived.Test.YtofflmhfffphdaaDoorSrf
import Derived.Test.YtofflmhfffphdaaDoorSu
namespace Go.Proofs.YtofflmhfffphdaaDoor.Sct
set_option linter.unusedVariables false
set_option linter.unusedSimpArgs false
set_option maxRecDepth 100000
open Go.ChangeShapes Go.WideShapes Go.ChangeAt Go.RowKit
open Go.Proofs.YtofflmhfffphdaaDoor.Wu Go.Proofs.YtofflmhfffphdaaDoor.Sm Go.Proofs.YtofflmhfffphdaaDoor.Sk Go.Proofs.YtofflmhfffphdaaDoor.Sc Go.Proofs.YtofflmhfffphdaaDoor.Sxa Go.Proofs.YtofflmhfffphdaaDoor.Sh Go.Proofs.YtofflmhfffphdaaDoor.Sn Go.Proofs.YtofflmhfffphdaaDoor.Sw0 Go.Proofs.YtofflmhfffphdaaDoor.Sx Go.Proofs.YtofflmhfffphdaaDoor.Sw Go.Proofs.YtofflmhfffphdaaDoor.Sb Go.Proofs.YtofflmhfffphdaaDoor.Sf Go.Proofs.YtofflmhfffphdaaDoor.So Go.Proofs.YtofflmhfffphdaaDoor.Su Go.Proofs.YtofflmhfffphdaaDoor.Sv Go.Proofs.YtofflmhfffphdaaDoor.Ap Go.Proofs.YtofflmhfffphdaaDoor.Sr Go.Proofs.YtofflmhfffphdaaDoor.Srf0 Go.Proofs.YtofflmhfffphdaaDoor.Srf1 Go.Proofs.YtofflmhfffphdaaDoor.Rk Go.Proofs.YtofflmhfffphdaaDoor.Sza Go.Proofs.YtofflmhfffphdaaDoor.Szb Go.Proofs.YtofflmhfffphdaaDoor.Srf Go.Proofs.YtofflmhfffphdaaDoor.St
attribute [local go_sem] kUpon_value kUpon_skip kUpon_enter

/-- The row when the bytes from k up to i are noughts. -/
def cutR (k i : Nat) (X : List Nat) : List Nat := X.take k ++ zeros (min i 32 - k) ++ X.drop i
theorem cutR_length (k i : Nat) (X : List Nat) (hX : X.length = 32) (hk : k ≤ 32) (hi : k ≤ i) : (cutR k i X).length = 32 := by
  simp [cutR, zeros, hX]; omega
theorem cutR_start (k i : Nat) (X : List Nat) (hX : X.length = 32) (h : (i ≤ 32 ∧ k = i) ∨ (32 < i ∧ k = 32)) : cutR k i X = X := by
  unfold cutR
  rcases h with ⟨h1, rfl⟩ | ⟨h1, rfl⟩
  · rw [show min k 32 - k = 0 by omega]; simp [zeros]
  · rw [show min i 32 - 32 = 0 by omega, List.take_of_length_le (by omega), List.drop_eq_nil_of_le (by omega)]; simp [zeros]
theorem cutR_end (k i : Nat) (X : List Nat) (hX : X.length = 32) (hk : k ≤ 32) (hi : 32 ≤ i) : cutR k i X = cutL k X := by
  unfold cutR cutL
  rw [show min i 32 = 32 by omega, List.drop_eq_nil_of_le (by omega), List.append_nil]
theorem cutR_step (k i : Nat) (X : List Nat) (hX : X.length = 32) (hk : k ≤ i) (hi : i < 32) : (cutR k i X).set i 0 = cutR k (i + 1) X := by
  unfold cutR
  have hl : (X.take k ++ zeros (min i 32 - k)).length = i := by simp [zeros, hX]; omega
  rw [List.set_append_right _ _ (by omega), hl, Nat.sub_self, List.drop_eq_getElem_cons (by omega), List.set_cons_zero, show min (i + 1) 32 - k = (min i 32 - k) + 1 by omega]
  have hz : zeros (min i 32 - k + 1) = zeros (min i 32 - k) ++ [0] := by unfold zeros; exact List.replicate_succ'
  rw [hz]
  simp
set_option maxHeartbeats 3200000 in
theorem refCut_c (n : Int) (k : Nat) (M : List Nat) (w : World) (hk : Cnt n k) (h8 : All8 M) (hbig : M.length ≤ 1000000) (hn : n ≤ 9223372036854775807) :
    Calls Tryd.prog 19 #[.int .i64 n, .string (strN M)] w fun e w' => e = .returned (.agg (u8s (cutL k (sha M)))) ∧ Below w.heap.size w w' := by
  have HR0 := hide (heap_last w (.cells (u8s (zeros 32)) 27))
  have HB0 := hide (below_new w (.cells (u8s (zeros 32)) 27))
  have hk32 : k ≤ 32 := by unfold Cnt at hk; omega
  have hc : (n < 0 ∧ k = 0) ∨ (¬ n < 0 ∧ ∃ j : Nat, n = (j : Int) ∧ ((j ≤ 32 ∧ k = j) ∨ (32 < j ∧ k = 32))) := by
    unfold Cnt at hk
    by_cases h : n < 0
    · left; omega
    · right; exact ⟨h, n.toNat, by omega, by omega⟩
  clear hk
  go_enter Tryd.func19, Tryd.ntmps19
  go_wp2_with fail
  rw [zlit8]
  generalize (w.alloc (.cells (u8s (zeros 32)) 27)) = w0 at *
  refine (refOf_c M w0 h8 hbig).mono ?_
  rintro e w1 ⟨rfl, hb1⟩
  obtain ⟨X, hX⟩ : ∃ X, X = sha M := ⟨_, rfl⟩
  have hXl : X.length = 32 := by rw [hX]; rfl
  have HX := hide hX
  rw [← hX]
  clear hX
  have HXl := hide hXl
  clear hXl
  have HR1 := hide (below_blk hb1 (heap_lt HR0.out) HR0.out)
  have HB1 := hide (keepB hb1 (Nat.le_refl _) HB0.out)
  have hz1 := heap_lt HR1.out
  clear hb1 HB0 HR0
  have Hz := hide (heap_last w1 (.cells (u8s (zeros 32)) 27))
  have Hzr := hide (heap_old HR1.out (.cells (u8s (zeros 32)) 27))
  have Hzb := hide (HB1.out.alloc HB1.out.size (.cells (u8s (zeros 32)) 27))
  go_wp2_with (refine wpList_store_whole rfl 27 (.tmp 5) (.tmp 9) rfl w1.heap.size X (zeros 32) 27 rfl rfl ?_ (by rw [HXl.out, zeros_length]) (by rw [infoS, HXl.out]) ?_; rw [zlit8]; exact Hz.out)
  rw [zlit8]
  intro w2 HW2 HG2
  have HR2 := hide (keepG HG2.out (by omega) Hzr.out)
  have HB2 := hide (belowG Hzb.out HG2.out (by omega) Hzb.out.size)
  refine of_hid ?_
  clear Hz Hzr Hzb HR1 HB1 HG2
  have hw2 := HB2.out.size
  generalize w1.heap.size = WB at *
  obtain ⟨j0, hj0, hst⟩ : ∃ j : Nat, ((n < 0 ∧ j = 0) ∨ (¬ n < 0 ∧ n = (j : Int))) ∧ ((j ≤ 32 ∧ k = j) ∨ (32 < j ∧ k = 32)) := by
    rcases hc with ⟨h1, h2⟩ | ⟨h1, j, h2, h3⟩
    · exact ⟨0, .inl ⟨h1, rfl⟩, .inl ⟨by omega, h2⟩⟩
    · exact ⟨j, .inr ⟨by omega, h2⟩, h3⟩
  have Hst := hide (cutR_start k j0 X HXl.out hst)
  have hkj : k ≤ j0 := by omega
  have hjb : j0 ≤ 9223372036854775807 := by omega
  clear hc hst
  rw [← Hst.out] at HW2
  rcases hj0 with ⟨hneg, rfl⟩ | ⟨hneg, rfl⟩
  all_goals
    go_wp2_with fail
    go_loopw [7] (fun i wr => ∃ q : Nat, k ≤ q ∧ q ≤ 9223372036854775807 ∧ i = .int .i64 (q : Int) ∧ wr.heap[WB]? = some (.cells (u8s (cutR k q X)) 27 (0, 0)) ∧ wr.heap[w.heap.size]? = some (.cells (u8s (zeros 32)) 27 (0, 0)) ∧ Below w.heap.size w wr) (fun i _ => 32 - (intOf i).toNat)
    case atStart => exact ⟨_, hkj, hjb, rfl, HW2.out, HR2.out, HB2.out⟩
    case round =>
      clear HW2 HR2 HB2 hkj hjb
      obtain ⟨q, hq, hqb, rfl, h1, h2, hb⟩ := hrel
      have H1 := hide h1
      have H2 := hide h2
      have HB := hide hb
      clear h1 h2 hb
      by_cases hlk : q < 32
      · have Hst := hide (cutR_step k q X HXl.out hq hlk)
        have cx := row8 (i := q) H1.out (by rw [cutR_length k q X HXl.out hk32 hq]; exact hlk)
        have fx := blk_free (i := q) H1.out
        generalize (cutR k q X).getD q 0 = old at *
        have hd : decide ((q : Int) < 32) = true := by simp; omega
        have k0 : (0 : Int) ≤ (q : Int) := by omega
        have k1 : (q : Int) < 32 := by omega
        go_wp2
        go_roundw
        case rel =>
          have e := blk_set (i := q) H1.out (.int .u8 ((0 : Nat) : Int))
          rw [u8s_set, Hst.out] at e
          exact ⟨q + 1, by omega, by omega, by go_num, e, blk_set_other H2.out (by omega) _, HB.out.setCell (by simp; omega) _⟩
        case measure => simp [intOf]; omega
      · have h1 := H1.out
        rw [cutR_end k q X HXl.out hk32 (by omega)] at h1
        have H3 := hide h1
        have Hl : Hid ((cutL k X).length = 32) := hide (cutL_length k X hk32 HXl.out)
        clear h1 H1
        have hd : decide ((q : Int) < 32) = false := by simp; omega
        go_wp2_with (first
          | (refine wpList_load_whole rfl 27 (.tmp 5) rfl WB (cutL k X) 27 (0, 0) rfl H3.out _ Tryd.underlying27 rfl (by rw [infoS, Hl.out]) ?_)
          | (refine wpList_store_whole rfl 27 (.tmp 4) (.tmp 20) rfl w.heap.size (cutL k X) (zeros 32) 27 rfl rfl H2.out Hl.out (by rw [infoS, Hl.out]) ?_))
        intro w5 H5 HG5
        have HB5 := hide (belowG HB.out HG5.out (by omega) HB.out.size)
        refine of_hid ?_
        go_wp2_with fail
        exact ret_whole Tryd.results19 w.heap.size (cutL k X) 27 (0, 0) rfl H5.out _ Tryd.underlying27 rfl (by rw [infoS, Hl.out]) rfl ⟨by rw [HX.out], HB5.out⟩
end Go.Proofs.YtofflmhfffphdaaDoor.Sct
