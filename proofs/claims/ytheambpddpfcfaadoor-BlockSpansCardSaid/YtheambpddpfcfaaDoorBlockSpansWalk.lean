/- BlockSpans' walk. -/
import Derived.Test.YtheambpddpfcfaaDoorKp
import Derived.Laws.Rows
namespace Go.Proofs.YtheambpddpfcfaaDoor.BlockSpansW
set_option linter.unusedVariables false
set_option linter.unusedSimpArgs false
set_option maxRecDepth 100000
open Go.ChangeShapes Go.WideShapes Go.ChangeAt Go.RowKit
open Go.Proofs.YtheambpddpfcfaaDoor.Wu Go.Proofs.YtheambpddpfcfaaDoor.Sm Go.Proofs.YtheambpddpfcfaaDoor.Sh Go.Proofs.YtheambpddpfcfaaDoor.Ba Go.Proofs.YtheambpddpfcfaaDoor.Bp Go.Proofs.YtheambpddpfcfaaDoor.Ka Go.Proofs.YtheambpddpfcfaaDoor.Kb Go.Proofs.YtheambpddpfcfaaDoor.Kc Go.Proofs.YtheambpddpfcfaaDoor.Kd Go.Proofs.YtheambpddpfcfaaDoor.Ke Go.Proofs.YtheambpddpfcfaaDoor.Kf Go.Proofs.YtheambpddpfcfaaDoor.Rk Go.Proofs.YtheambpddpfcfaaDoor.Kg Go.Proofs.YtheambpddpfcfaaDoor.Kh Go.Proofs.YtheambpddpfcfaaDoor.Ki Go.Proofs.YtheambpddpfcfaaDoor.Kj Go.Proofs.YtheambpddpfcfaaDoor.Kp
open Go.Proofs.YtheambpddpfcfaaDoor.Sn (Fst fst_keep)
open Go.Proofs.YtheambpddpfcfaaDoor.Sxa (Tbl tbl_keep)
open Go.Proofs.YtheambpddpfcfaaDoor.Su (cutL Cnt)
attribute [local go_sem] kUpon_value kUpon_skip kUpon_enter
theorem out_walk (l s o : Int) (w : World) (hT : Tbl w) (hF : Fst w) (hl : l ≤ 9223372036854775807) (hg : l < 0 ∨ 300 < l ∨ s < 1 ∨ 4096 < s) :
    Calls Tryd.prog 6 #[.int .i64 l, .int .i64 s, .int .i64 o] w fun e w' => e = .returned (.bool true) ∧ Below w.heap.size w w' := by
  have HH := hide (sums_c w hT hF)
  have HA := hide (fun u : World => count_c u l s hl)
  have HB := hide (fun u : World => refcount_c u l s hl)
  have hc : (l < 0) ∨ (¬ l < 0 ∧ 300 < l) ∨ (¬ l < 0 ∧ ¬ 300 < l ∧ s < 1) ∨ (¬ l < 0 ∧ ¬ 300 < l ∧ ¬ s < 1 ∧ 4096 < s) := by omega
  generalize cntZ l s = n at *
  clear hT hF hg hl
  rcases hc with h1 | ⟨h1, h2⟩ | ⟨h1, h2, h3⟩ | ⟨h1, h2, h3, h4⟩
  all_goals
    go_enter Tryd.func6, Tryd.ntmps6
    go_wp2_with fail
    refine HH.out.mono ?_
    rintro e w1 ⟨rfl, hb1⟩
    have HB1 := hide hb1
    clear hb1
    go_wp2_with fail
    refine (HA.out _).mono ?_
    rintro e w2 ⟨rfl, rfl⟩
    go_wp2_with fail
    refine (HB.out _).mono ?_
    rintro e w2 ⟨rfl, rfl⟩
    go_wp2
    go_ret
    exact ⟨rfl, HB1.out⟩
theorem made_row {w : World} {base g n : Nat} {e : TypeId} (h : w.ownsRow base e 1 (.slice (some ⟨g, 0, none⟩) n n) n (List.replicate n (.int .u8 0))) : w.heap[g]? = some (.cells (u8s (zeros n)) e (0, 0)) := by
  obtain ⟨h1, h2 | ⟨g', cap, cur, hv, hg, hh, h3, h4, h5, h6⟩⟩ := h
  · simp at h2
  · simp only [Value.slice.injEq, Option.some.injEq, Addr.mk.injEq] at hv
    obtain ⟨⟨rfl, -, -⟩, -, rfl⟩ := hv
    rw [hh]
    have : cur.toList = List.replicate n (.int .u8 0) := by
      rw [← h6, List.take_of_length_le (by simp; omega)]
    rw [show cur = u8s (zeros n) from Array.toList_inj.1 (by rw [this]; simp [u8s, zeros])]
theorem cnt_ge {l s n : Nat} (hs : 1 ≤ s) (hn : cntZ l s = (n : Int)) : l ≤ n * s := by
  unfold cntZ at hn
  rw [if_neg (by omega)] at hn
  have h1 := Int.mul_ediv_add_emod (l : Int) (s : Int)
  have h2 := Int.emod_nonneg (l : Int) (show (s : Int) ≠ 0 by omega)
  have h3 := Int.emod_lt_of_pos (l : Int) (show (0 : Int) < (s : Int) by omega)
  generalize (l : Int) / (s : Int) = q at *
  generalize (l : Int) % (s : Int) = r at *
  split at hn
  · have e : ((n * s : Nat) : Int) = (s : Int) * q + s := by
      rw [Int.natCast_mul, ← hn, Int.add_mul, Int.one_mul, Int.mul_comm q s]
    omega
  · have e : ((n * s : Nat) : Int) = (s : Int) * q := by
      rw [Int.natCast_mul, ← hn, Int.mul_comm q s]
    omega
set_option maxHeartbeats 3200000 in
theorem in_walk (l s n : Nat) (o : Int) (w : World) (hT : Tbl w) (hF : Fst w) (hl : l ≤ 300) (hs1 : 1 ≤ s) (hs2 : s ≤ 4096) (hn : cntZ l s = (n : Int)) :
    Calls Tryd.prog 6 #[.int .i64 (l : Int), .int .i64 (s : Int), .int .i64 o] w fun e w' => e = .returned (.bool true) ∧ Below w.heap.size w w' := by
  obtain ⟨i0, hi0, hz0, hz1, hz2⟩ := info_parts info_bs
  have hn300 : n ≤ 300 := by
    unfold cntZ at hn
    rw [if_neg (by omega)] at hn
    obtain ⟨b1, b2, b3, b4, b5⟩ := div_bd (show (0 : Int) ≤ l by omega) (show (1 : Int) ≤ s by omega)
    split at hn
    · have := b5 (by assumption)
      omega
    · omega
  have hf : fitsE (s : Int) ((0 : Nat) : Int) (l : Int) = 0 := by
    unfold fitsE
    rw [if_neg (by omega), if_neg (by omega)]
  have hch := mk_check (zeros l) s 0 n l hf hn
  have Hge := hide (cnt_ge hs1 hn)
  have Hlt := hide (fun (i : Nat) (hi : i < n) => cnt_lt (m := l) (s := s) (i := i) (by omega) (by omega) (by omega) (by rw [hn]; omega))
  have HT := hide hT
  have HF := hide hF
  have HH := hide (sums_c w hT hF)
  have HCt := hide (fun u : World => count_c u (l : Int) (s : Int) (by omega))
  rw [hn] at HCt
  have Hf := hide hf
  have Hn := hide hn
  have Hch := hide hch
  have Hz0 := hide hz0
  have Hi0 := hide hi0
  have Hz1 := hide hz1
  have Hz2 := hide hz2
  clear hT hF hf hn hch hi0 hz0 hz1 hz2
  have d1 : decide ((l : Int) < 0) = false := by simp
  have d2 : decide ((300 : Int) < (l : Int)) = false := by simp; omega
  have d2' : decide (300 < l) = false := by simp; omega
  have d3 : decide ((s : Int) < 1) = false := by simp; omega
  have d3' : decide (s < 1) = false := by simp; omega
  have d4 : decide ((4096 : Int) < (s : Int)) = false := by simp; omega
  have d4' : decide (4096 < s) = false := by simp; omega
  go_enter Tryd.func6, Tryd.ntmps6
  go_wp2_with fail
  refine HH.out.mono ?_
  rintro e w0 ⟨rfl, hb0⟩
  have HB0 := hide hb0
  clear hb0 HH
  obtain ⟨w1, hrun, hown, hgrow⟩ := run_make_full (P := Tryd.prog) w0 w0.heap.size 22 5 i0 (.int .u8 0) 1 Tryd.underlying22 Hi0.out Hz0.out Hz1.out .i64 .i64 l (by rw [Hz2.out]; omega) (by unfold maxLen; omega) (Nat.le_refl _)
  have hown' : w1.ownsRow w0.heap.size 5 1 (.slice (some ⟨w0.heap.size, 0, none⟩) l l) l (List.replicate l (.int .u8 0)) := by
    have e : (madeCells (Value.int .u8 0).cells (l * 1)).toList = List.replicate l (.int .u8 0) := by
      rw [Nat.mul_one]; exact toList_madeCells_one _ l
    rw [e] at hown
    exact hown
  have HR1 := hide (made_row hown')
  have HB1 := hide ((HB0.out : Below w.heap.size w w0).grown hgrow HB0.out.size (fun k hk => by cases hk))
  clear hown hown' hgrow
  have hsrc : SrcB w1 (some ⟨w0.heap.size, 0, none⟩) l (zeros l) := ⟨zeros_length l, (fun z hz => by rw [List.eq_of_mem_replicate hz]; omega), w0.heap.size, 0, fun _ => rfl, fun i hi => by rw [Nat.zero_add]; exact row8 HR1.out (by rw [zeros_length]; exact hi)⟩
  have HMk := hide (make_ok (some ⟨w0.heap.size, 0, none⟩) l l (zeros l) s 0 n w1 hsrc (Nat.le_refl _) (by omega) Hf.out Hn.out (tbl_keep HT.out HB1.out (Nat.le_refl _)) (fst_keep HF.out HB1.out (Nat.le_refl _)))
  clear hsrc
  simp only [Int.cast_ofNat_Int] at HMk
  go_wp2_with fail
  clear hrun
  refine HMk.out.mono ?_
  rintro e w2 ⟨v, rfl, ho, hb2⟩
  have HB2 := hide (keepB hb2 (Nat.le_refl _) HB1.out)
  have hml : (mkB (zeros l) s 0 n).length = n := mkB_length _ _ _ _
  obtain ⟨_, av, cv, hv, hcv, hcm, -⟩ := ho.is
  rw [hml] at hv hcv
  subst hv
  have HI := hide (fun (u : World) (hu : Below w2.heap.size w2 u) => ho.is.below hu)
  have hch := Hch.out
  generalize mkB (zeros l) s 0 n = bs at *
  have HSp := hide (fun (u : World) (hu : Below w2.heap.size w2 u) (i q : Nat) (hi : i < n) (hq : min (s : Int) ((l : Int) - (i : Int) * (s : Int)) = (q : Int)) => Span_c u s 0 l i q av n cv bs (HI.out u hu) hml hch hi hq)
  simp only [Int.cast_ofNat_Int] at HSp
  unfold sigV at HSp ⊢
  clear ho hb2 HMk HB1 HR1 HI hml hch Hch Hf Hi0 Hz0 Hz1 Hz2 HF HT
  have HS2 := hide (heap_last w2 (.cells #[.int .i64 (s : Int), .int .i64 0, .int .i64 (l : Int), .slice av n cv] 26))
  have HW2 := hide (below_new w2 (.cells #[.int .i64 (s : Int), .int .i64 0, .int .i64 (l : Int), .slice av n cv] 26))
  go_wp2_with fail
  generalize (w2.alloc (.cells #[.int .i64 (s : Int), .int .i64 0, .int .i64 (l : Int), .slice av n cv] 26)) = w3 at *
  go_loopw [50, 9] (fun j t wr => ∃ i p : Nat, j = .int .i64 ((i : Nat) : Int) ∧ t = .int .i64 (p : Int) ∧ i ≤ n ∧ p = min (i * s) l ∧ wr.heap[w2.heap.size]? = some (.cells #[.int .i64 (s : Int), .int .i64 0, .int .i64 (l : Int), .slice av n cv] 26 (0, 0)) ∧ Below w2.heap.size w2 wr) (fun j _ _ => n - (intOf j).toNat)
  case atStart => exact ⟨0, 0, rfl, rfl, Nat.zero_le _, by simp, HS2.out, HW2.out⟩
  case round =>
    clear HS2 HW2
    obtain ⟨i, p, rfl, rfl, hi, hp, hS, hW⟩ := hrel
    have HS := hide hS
    have HW := hide hW
    clear hS hW
    obtain ⟨c0, c1, c2, c3⟩ := Sig4.cells (T := 26) HS.out
    by_cases hlt : i < n
    · have him := Hlt.out i hlt
      have e0 : (i : Int) * (s : Int) = ((i * s : Nat) : Int) := by simp
      rw [e0] at him
      have hpi : p = i * s := by omega
      obtain ⟨q, hq⟩ : ∃ q, q = min s (l - p) := ⟨_, rfl⟩
      have hq1 : 1 ≤ q := by omega
      have hq2 : q ≤ s := by omega
      have hpl : p + q ≤ l := by omega
      have hqi : min (s : Int) ((l : Int) - (i : Int) * (s : Int)) = (q : Int) := by rw [e0, hq, hpi]; omega
      have HC := hide (HSp.out wr HW.out i q hlt hqi)
      rw [← hpi] at HC
      have hlast : q < s → ¬ i + 1 < n := by
        intro h1 h2
        have h3 := Hlt.out (i + 1) h2
        have e1 : ((i + 1 : Nat) : Int) * (s : Int) = (((i + 1) * s : Nat) : Int) := by simp
        have e2 : (i + 1) * s = i * s + s := by rw [Nat.add_mul, Nat.one_mul]
        rw [e1, e2] at h3
        omega
      have Hnx : Hid (p + q = min ((i + 1) * s) l) := hide (by
        have e2 : (i + 1) * s = i * s + s := by rw [Nat.add_mul, Nat.one_mul]
        rw [e2]; omega)
      clear him e0 hpi hqi hp hq
      have d1 : decide ((i : Int) < (n : Int)) = true := by simpa using hlt
      by_cases hqs : q < s
      · have hl1 := hlast hqs
        clear hlast
        go_wp2_with fail
        refine HC.out.mono ?_
        rintro e w5 ⟨rfl, hb5⟩
        have HS5 := hide (below_blk hb5 (heap_lt HS.out) HS.out)
        have HW5 := hide (keepB hb5 (Nat.le_refl _) HW.out)
        clear hb5 HC HS HW c0 c1 c2 c3
        obtain ⟨c0, c1, c2, c3⟩ := Sig4.cells (T := 26) HS5.out
        go_wp2
        go_roundw
        case rel => exact ⟨i + 1, p + q, by go_num, by go_num, by omega, Hnx.out, HS5.out, HW5.out⟩
        case measure => simp [intOf]; omega
      · clear hlast
        go_wp2_with fail
        refine HC.out.mono ?_
        rintro e w5 ⟨rfl, hb5⟩
        have HS5 := hide (below_blk hb5 (heap_lt HS.out) HS.out)
        have HW5 := hide (keepB hb5 (Nat.le_refl _) HW.out)
        clear hb5 HC HS HW c0 c1 c2 c3
        go_wp2
        go_roundw
        case rel => exact ⟨i + 1, p + q, by go_num, by go_num, by omega, Hnx.out, HS5.out, HW5.out⟩
        case measure => simp [intOf]; omega
    · obtain rfl : i = n := by omega
      obtain rfl : p = l := by have := Hge.out; omega
      have hd : decide ((i : Int) < (i : Int)) = false := by simp
      have d5 : ((p : Int) == (p : Int)) = true := by simp
      have d6 : ((i : Int) == (i : Int)) = true := by simp
      clear hp hi
      by_cases ho : o < 0 ∨ (i : Int) ≤ o
      · have HN := hide (Span_none wr s 0 p o av i cv ho)
        unfold sigV at HN
        go_wp2_with fail
        refine HN.out.mono ?_
        rintro e w5 ⟨rfl, hb5⟩
        have HS5 := hide (below_blk hb5 (heap_lt HS.out) HS.out)
        have HW5 := hide (keepB hb5 (Nat.le_refl _) HW.out)
        clear hb5 HN HS HW c0 c1 c2 c3
        go_wp2_with fail
        rcases ho with ho | ho
        · have d7 : decide (0 ≤ o) = false := by simp; omega
          clear ho
          refine wp_region_keep (fun u => u.heap[w2.heap.size]? = some (.cells #[.int .i64 (s : Int), .int .i64 0, .int .i64 (p : Int), .slice av i cv] 26 (0, 0)) ∧ Below w2.heap.size w2 u) (by kernel_rfl) (by kernel_rfl) ⟨HS5.out, HW5.out.drew⟩ ?_
          repeat (first
            | (refine keep_step (v := ?_) (by rfl) (fun u K hS hK => ?_) ?_
               rotate_left
               · obtain ⟨c0, c1, c2, c3⟩ := Sig4.cells (T := 26) hS.1
                 (go_simp; first
                   | (go_at_call 31; refine (HCt.out _).mono ?_; rintro e u2 ⟨rfl, rfl⟩; exact hK _ hS)
                   | (with_reducible exact hK _ hS))
               simp only [Act.put, List.setIfInBounds_toArray, List.set_cons_zero, List.set_cons_succ])
            | (refine keep_not (by rfl) ?_
               simp only [Act.put, List.setIfInBounds_toArray, List.set_cons_zero, List.set_cons_succ]))
          refine keep_nil (fun w6 hS6 => ?_)
          have HW6 := hide (keepB hS6.2 (Nat.le_refl _) HB2.out)
          clear hS6
          go_wp2
          go_ret
          exact ⟨rfl, HW6.out⟩
        · have d7 : decide (0 ≤ o) = true := by simp; omega
          have d8 : decide (o < (i : Int)) = false := by simp; omega
          clear ho
          refine wp_region_keep (fun u => u.heap[w2.heap.size]? = some (.cells #[.int .i64 (s : Int), .int .i64 0, .int .i64 (p : Int), .slice av i cv] 26 (0, 0)) ∧ Below w2.heap.size w2 u) (by kernel_rfl) (by kernel_rfl) ⟨HS5.out, HW5.out.drew⟩ ?_
          repeat (first
            | (refine keep_step (v := ?_) (by rfl) (fun u K hS hK => ?_) ?_
               rotate_left
               · obtain ⟨c0, c1, c2, c3⟩ := Sig4.cells (T := 26) hS.1
                 (go_simp; first
                   | (go_at_call 31; refine (HCt.out _).mono ?_; rintro e u2 ⟨rfl, rfl⟩; exact hK _ hS)
                   | (with_reducible exact hK _ hS))
               simp only [Act.put, List.setIfInBounds_toArray, List.set_cons_zero, List.set_cons_succ])
            | (refine keep_not (by rfl) ?_
               simp only [Act.put, List.setIfInBounds_toArray, List.set_cons_zero, List.set_cons_succ]))
          refine keep_nil (fun w6 hS6 => ?_)
          have HW6 := hide (keepB hS6.2 (Nat.le_refl _) HB2.out)
          clear hS6
          go_wp2
          go_ret
          exact ⟨rfl, HW6.out⟩
      · obtain ⟨j, rfl⟩ := Int.eq_ofNat_of_zero_le (show 0 ≤ o by omega)
        have hji : j < i := by omega
        obtain ⟨q, hq⟩ : ∃ q : Nat, min (s : Int) ((p : Int) - (j : Int) * (s : Int)) = (q : Int) := by
          have h1 := Hlt.out j hji
          exact ⟨(min (s : Int) ((p : Int) - (j : Int) * (s : Int))).toNat, by omega⟩
        have HN := hide (HSp.out wr HW.out j q hji hq)
        have d7 : decide ((0 : Int) ≤ (j : Int)) = true := by simp
        have d8 : decide ((j : Int) < (i : Int)) = true := by simp; omega
        have d8' : decide (j < i) = true := by simp; omega
        clear hq ho
        go_wp2_with fail
        refine HN.out.mono ?_
        rintro e w5 ⟨rfl, hb5⟩
        have HS5 := hide (below_blk hb5 (heap_lt HS.out) HS.out)
        have HW5 := hide (keepB hb5 (Nat.le_refl _) HW.out)
        clear hb5 HN HS HW c0 c1 c2 c3
        go_wp2_with fail
        refine wp_region_keep (fun u => u.heap[w2.heap.size]? = some (.cells #[.int .i64 (s : Int), .int .i64 0, .int .i64 (p : Int), .slice av i cv] 26 (0, 0)) ∧ Below w2.heap.size w2 u) (by kernel_rfl) (by kernel_rfl) ⟨HS5.out, HW5.out.drew⟩ ?_
        repeat (first
          | (refine keep_step (v := ?_) (by rfl) (fun u K hS hK => ?_) ?_
             rotate_left
             · obtain ⟨c0, c1, c2, c3⟩ := Sig4.cells (T := 26) hS.1
               (go_simp; first
                 | (go_at_call 31; refine (HCt.out _).mono ?_; rintro e u2 ⟨rfl, rfl⟩; exact hK _ hS)
                 | (with_reducible exact hK _ hS))
             simp only [Act.put, List.setIfInBounds_toArray, List.set_cons_zero, List.set_cons_succ])
          | (refine keep_not (by rfl) ?_
             simp only [Act.put, List.setIfInBounds_toArray, List.set_cons_zero, List.set_cons_succ]))
        refine keep_nil (fun w6 hS6 => ?_)
        have HW6 := hide (keepB hS6.2 (Nat.le_refl _) HB2.out)
        clear hS6
        go_wp2
        go_ret
        exact ⟨rfl, HW6.out⟩
end Go.Proofs.YtheambpddpfcfaaDoor.BlockSpansW
