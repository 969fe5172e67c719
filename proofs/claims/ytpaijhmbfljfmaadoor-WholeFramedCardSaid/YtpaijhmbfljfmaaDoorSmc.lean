/- Mac: the sum of parts with a key. -/
import Derived.Test.YtpaijhmbfljfmaaDoorSy
import Derived.Test.YtpaijhmbfljfmaaDoorSg
namespace Go.Proofs.YtpaijhmbfljfmaaDoor.Smc
set_option linter.unusedVariables false
set_option linter.unusedSimpArgs false
set_option maxRecDepth 100000
open Go.ChangeShapes Go.WideShapes Go.ChangeAt Go.RowKit
open Go.Proofs.YtpaijhmbfljfmaaDoor.Wu Go.Proofs.YtpaijhmbfljfmaaDoor.Sm Go.Proofs.YtpaijhmbfljfmaaDoor.Sk Go.Proofs.YtpaijhmbfljfmaaDoor.Sc Go.Proofs.YtpaijhmbfljfmaaDoor.Sxa Go.Proofs.YtpaijhmbfljfmaaDoor.Sh Go.Proofs.YtpaijhmbfljfmaaDoor.Sn Go.Proofs.YtpaijhmbfljfmaaDoor.Sw0 Go.Proofs.YtpaijhmbfljfmaaDoor.Sx Go.Proofs.YtpaijhmbfljfmaaDoor.Sw Go.Proofs.YtpaijhmbfljfmaaDoor.Sb Go.Proofs.YtpaijhmbfljfmaaDoor.Sf Go.Proofs.YtpaijhmbfljfmaaDoor.So Go.Proofs.YtpaijhmbfljfmaaDoor.Su Go.Proofs.YtpaijhmbfljfmaaDoor.St Go.Proofs.YtpaijhmbfljfmaaDoor.Sv Go.Proofs.YtpaijhmbfljfmaaDoor.Sy Go.Proofs.YtpaijhmbfljfmaaDoor.Sg

/-- The standard's sum with a key. -/
def macL (L M : List Nat) : List Nat := sha (mask 92 (keyL L) ++ sha (mask 54 (keyL L) ++ M))
theorem srcB_whole {w : World} {B : Nat} {X : List Nat} {T : TypeId} {f : Nat × Nat} {n : Nat} (h : w.heap[B]? = some (.cells (u8s X) T f)) (h8 : All8 X) (hn : X.length = n) : SrcB w (some ⟨B, 0, none⟩) n X :=
  ⟨hn, h8, B, 0, fun _ => rfl, fun i hi => by rw [Nat.zero_add]; exact row8 h (by omega)⟩
/-- What is below a new block stays. -/
structure Base (w w' : World) (R : Nat) (T : TypeId) (X : List Nat) : Prop where
  row : w'.heap[R]? = some (.cells (u8s X) T (0, 0))
  below : Below w.heap.size w w'
set_option maxHeartbeats 3200000 in
set_option maxRecDepth 100000 in
theorem mac_c (a : Option Addr) (m c : Nat) (L : List Nat) (A : Option Addr) (cap : Nat) (Ps : List Part) (w : World) (hs : SrcB w a m L) (hc : m ≤ c) (hP : Parts w A Ps) (hT : Tbl w) (hF : Fst w) (hm : m ≤ 140737488355328)
    (hbig : (flat Ps).length ≤ 70368744177664) (hn : Ps.length < 4611686018427387904) :
    Calls Tryd.prog 19 #[.slice a m c, .slice A Ps.length cap] w fun e w' => e = .returned (.agg (u8s (macL L (flat Ps)))) ∧ Below w.heap.size w w' := by
  have Hall := hide (flat_all hP)
  have HS := hide hs
  have HT := hide hT
  have HF := hide hF
  have HPP := hide hP
  obtain ⟨b, off, hA, hp⟩ := hP
  have HA := hide hA
  have HP := hide hp
  have hg1 := tbl_lt hT
  have H0 := hide (heap_last w (.cells (u8s (zeros 32)) 27))
  have HB := hide (below_new w (.cells (u8s (zeros 32)) 27))
  have HK8 := hide (keyL_all hs.2.1)
  have HKl := hide (keyL_length L)
  clear hs hT hF hA hp
  go_enter Tryd.func19, Tryd.ntmps19
  go_wp2_with fail
  rw [zlit8]
  generalize (w.alloc (.cells (u8s (zeros 32)) 27)) = w0 at *
  refine (key_c a m c L w0 (HS.out.below HB.out) hc (tbl_keep HT.out HB.out (Nat.le_refl _)) (fst_keep HF.out HB.out (Nat.le_refl _)) hm).mono ?_
  rintro e w1 ⟨rfl, hb1⟩
  obtain ⟨K, hK⟩ : ∃ K, K = keyL L := ⟨_, rfl⟩
  have HK := hide hK
  rw [← hK] at HK8 HKl ⊢
  clear hK
  have H1 := hide (heap_old (below_blk hb1 (heap_lt H0.out) H0.out) (.cells (u8s (zeros 64)) 99))
  have hz1 := heap_lt (below_blk hb1 (heap_lt H0.out) H0.out)
  have HB1 := hide ((keepB hb1 (Nat.le_refl _) HB.out).alloc (Nat.le_of_lt hz1) (.cells (u8s (zeros 64)) 99))
  have Hz1 := hide (heap_last w1 (.cells (u8s (zeros 64)) 99))
  clear hb1 HB H0
  go_wp2_with (refine wpList_store_whole rfl 99 (.tmp 5) (.tmp 13) rfl w1.heap.size K (zeros 64) 99 rfl rfl Hz1.out HKl.out (by rw [info64, HKl.out]) ?_)
  intro w2 HK2 HG2
  have H2 := hide (keepG HG2.out (by omega) H1.out)
  have HB2 := hide (belowG HB1.out HG2.out (by omega) HB1.out.size)
  clear H1 HB1 Hz1 HG2
  generalize w1.heap.size = KB at *
  refine of_hid ?_
  go_wp2_with (refine wpList_load_whole rfl 99 (.tmp 5) rfl KB K 99 (0, 0) rfl HK2.out _ Tryd.underlying99 rfl (by rw [info64, HKl.out]) ?_)
  refine (masked_c K 54 w2 HKl.out HK8.out (by omega)).mono ?_
  rintro e w3 ⟨rfl, hb3⟩
  obtain ⟨I, hI⟩ : ∃ I, I = mask 54 K := ⟨_, rfl⟩
  have HI := hide hI
  have HIl : Hid (I.length = 64) := by show _ = _; rw [hI, mask_length, HKl.out]
  have HI8 : Hid (All8 I) := by rw [hI]; exact mask_all (by omega) HK8.out
  rw [← hI]
  clear hI
  have H3 := hide (below_blk hb3 (heap_lt H2.out) H2.out)
  have HK3 := hide (below_blk hb3 (heap_lt HK2.out) HK2.out)
  have HB3 := hide (keepB hb3 (Nat.le_refl _) HB2.out)
  have hz3 := heap_lt HK3.out
  have Hz3 := hide (heap_last w3 (.cells (u8s (zeros 64)) 99))
  have H3' := hide (heap_old H3.out (.cells (u8s (zeros 64)) 99))
  have HK3' := hide (heap_old HK3.out (.cells (u8s (zeros 64)) 99))
  have HB3' := hide (HB3.out.alloc HB3.out.size (.cells (u8s (zeros 64)) 99))
  clear hb3 H2 HK2 HB2 H3 HK3 HB3
  go_wp2_with (refine wpList_store_whole rfl 99 (.tmp 6) (.tmp 15) rfl w3.heap.size I (zeros 64) 99 rfl rfl Hz3.out HIl.out (by rw [info64, HIl.out]) ?_)
  intro w4 HI4 HG4
  have H4 := hide (keepG HG4.out (by omega) H3'.out)
  have HK4 := hide (keepG HG4.out (by omega) HK3'.out)
  have HB4 := hide (belowG HB3'.out HG4.out (by omega) HB3'.out.size)
  clear H3' HK3' HB3' Hz3 HG4
  generalize w3.heap.size = IB at *
  refine of_hid ?_
  go_wp2_with fail
  refine (newHasher_c w4 (fst_keep HF.out HB4.out (Nat.le_refl _))).mono ?_
  rintro e w5 ⟨rfl, hb5⟩
  have H5 := hide (below_blk hb5 (heap_lt H4.out) H4.out)
  have HK5 := hide (below_blk hb5 (heap_lt HK4.out) HK4.out)
  have HI5 := hide (below_blk hb5 (heap_lt HI4.out) HI4.out)
  have HB5 := hide (keepB hb5 (Nat.le_refl _) HB4.out)
  have hz5 := heap_lt HI5.out
  clear hb5 H4 HK4 HB4 HI4
  have Hz := hide (heap_last w5 (.cells (hcells Z8 (zeros 64) 0 0).toArray 102))
  have hzz := fun v : World => zeroH v
  have hsl := fun v : World => sliceAll64 v IB
  go_wp2_with (refine wpList_store_mid rfl 102 (.tmp 7) (.tmp 16) rfl w5.heap.size 0 _ rfl rfl ?_ ?_ ?_ ?_)
  · have := there_cells Hz.out
    exact this
  · rw [info74]; rfl
  · exact hcells_one _ _ _ _
  have h3 := blk_setCells (hcells H0 (zeros 64) 0 0) 0 (w5.alloc (.cells (hcells Z8 (zeros 64) 0 0).toArray 102)) (hcells Z8 (zeros 64) 0 0) (by rw [hcells_length, hcells_length]; omega) Hz.out
  rw [show (hcells Z8 (zeros 64) 0 0).take 0 ++ hcells H0 (zeros 64) 0 0 ++ (hcells Z8 (zeros 64) 0 0).drop (0 + (hcells H0 (zeros 64) 0 0).length) = hcells H0 (zeros 64) 0 0 from rfl] at h3
  have Hb2 : Hid (Below w5.heap.size w5 ((w5.alloc (.cells (hcells Z8 (zeros 64) 0 0).toArray 102)).setCells w5.heap.size 0 (hcells H0 (zeros 64) 0 0))) := below_setCells _ _ _ _ (below_new _ _) (Nat.le_refl _)
  have HTk := hide (took_nil h3)
  have H6 := hide (below_blk Hb2.out (heap_lt H5.out) H5.out)
  have HK6 := hide (below_blk Hb2.out (heap_lt HK5.out) HK5.out)
  have HI6 := hide (below_blk Hb2.out (heap_lt HI5.out) HI5.out)
  have HB6 := hide (keepB Hb2.out (Nat.le_refl _) HB5.out)
  clear h3 Hb2 HB5 HI5 HK5 H5 Hz hzz
  generalize ((w5.alloc (.cells (hcells Z8 (zeros 64) 0 0).toArray 102)).setCells w5.heap.size 0 (hcells H0 (zeros 64) 0 0)) = w6 at *
  generalize w5.heap.size = G at *
  as_aux_lemma =>
    have hIG : IB ≠ G := by omega
    refine (write_c G [] _ 64 64 I w6 HTk.out (tbl_keep HT.out HB6.out (Nat.le_refl _)) ⟨HIl.out, HI8.out, IB, 0, fun _ => rfl, fun _ => hIG, fun i hi => by rw [Nat.zero_add]; exact row8 HI6.out (by rw [HIl.out]; exact hi)⟩ (Nat.le_refl _) (by omega) (by simp)).mono ?_
    rintro e w7 ⟨rfl, hT7, hG7⟩
    rw [List.nil_append] at hT7
    have HT7 := hide hT7
    have H7 := hide (keepG hG7 (by omega) H6.out)
    have HK7 := hide (keepG hG7 (by omega) HK6.out)
    have HB7 := hide (belowG HB6.out hG7 (by omega) HB6.out.size)
    clear hT7 hG7 H6 HK6 HB6 HI6 hsl HTk
    go_wp2_with fail
    go_loopw [21, 9] (fun i _ wr => ∃ k : Nat, k ≤ Ps.length ∧ i = .int .i64 k ∧ Took wr G (I ++ flat (Ps.take k)) ∧ wr.heap[w.heap.size]? = some (.cells (u8s (zeros 32)) 27 (0, 0)) ∧ wr.heap[KB]? = some (.cells (u8s K) 99 (0, 0)) ∧ Below w.heap.size w wr) (fun i _ _ => Ps.length - (intOf i).toNat)
    case atStart => exact ⟨0, by omega, rfl, by rw [List.take_zero]; show Took _ _ (I ++ []); rw [List.append_nil]; exact HT7.out, H7.out, HK7.out, HB7.out⟩
    case round =>
      clear HT7 H7 HK7 HB7
      obtain ⟨k, hk, rfl, h1, h2, h4, h3⟩ := hrel
      have H1 := hide h1
      have H2 := hide h2
      have HKw := hide h4
      have HB := hide h3
      have HTw := hide (tbl_keep HT.out h3 (Nat.le_refl _))
      clear h1 h2 h3 h4
      by_cases hlt : k < Ps.length
      · obtain ⟨p, hpk⟩ : ∃ p, Ps[k]? = some p := ⟨Ps[k], List.getElem?_eq_getElem hlt⟩
        obtain ⟨hc', hsrc, hpc⟩ := HP.out k p hpk
        have hcw : wr.cell? ⟨b, off + k, none⟩ = some (.slice p.a p.n p.c) := keepC HB.out (Nat.le_refl _) hc'
        obtain rfl := HA.out (by omega)
        have HSn := hide (hsrc.srcN (g := G) HB.out (by omega))
        have Hf : Hid (I ++ flat (Ps.take (k + 1)) = (I ++ flat (Ps.take k)) ++ p.L) := by
          show _ = _
          rw [List.append_assoc, ← flat_snoc, List.take_add_one, hpk]; rfl
        have hlen := flat_take_le Ps (k + 1)
        have hlen2 : (I ++ flat (Ps.take k)).length + p.n ≤ 281474976710656 := by
          have e : (flat (Ps.take (k + 1))).length = (flat (Ps.take k)).length + p.n := by
            rw [List.take_add_one, hpk]
            show (flat (Ps.take k ++ [p])).length = _
            rw [flat_snoc, List.length_append, hsrc.1]
          rw [List.length_append, HIl.out]
          omega
        have hd : decide ((k : Int) < (Ps.length : Int)) = true := by simp; omega
        clear hpk hc' hsrc hlen
        as_aux_lemma =>
          go_wp2_with fail
          refine (write_c G _ _ p.n p.c p.L wr H1.out HTw.out HSn.out hpc (by omega) hlen2).mono ?_
          rintro e w3 ⟨rfl, hT3, hG3⟩
          have HT3 := hide hT3
          have H23 := hide (keepG hG3 (by omega) H2.out)
          have HK23 := hide (keepG hG3 (by omega) HKw.out)
          have HBB := hide (belowG HB.out hG3 (by omega) HB.out.size)
          clear hT3 hG3 hcw
          go_wp2
          go_roundw
          case rel => exact ⟨k + 1, by omega, by go_num, by rw [Hf.out]; exact HT3.out, H23.out, HK23.out, HBB.out⟩
          case measure => simp [intOf]; omega
      · have hkl : k = Ps.length := by omega
        subst hkl
        have hd : decide ((Ps.length : Int) < (Ps.length : Int)) = false := by simp
        have H1' := H1.out
        rw [List.take_length] at H1'
        have HTK := hide H1'
        clear H1 H1'
        obtain ⟨M, hM⟩ : ∃ M, M = I ++ flat Ps := ⟨_, rfl⟩
        have HM := hide hM
        have HM8 : Hid (All8 M) := by rw [hM]; exact all8_append HI8.out Hall.out
        have hMl : M.length ≤ 140737488355328 := by rw [hM, List.length_append, HIl.out]; omega
        rw [← hM] at HTK
        clear hM
        as_aux_lemma =>
          go_wp2_with fail
          refine (finish_c G M wr HTK.out HTw.out HM8.out (by omega) hMl).mono ?_
          rintro e w8 ⟨rfl, hG8⟩
          obtain ⟨X, hX⟩ : ∃ X, X = sha M := ⟨_, rfl⟩
          have HX := hide hX
          have HXl : Hid (X.length = 32) := by show _ = _; rw [hX]; rfl
          have HX8 : Hid (All8 X) := by rw [hX]; exact all8_sha M
          rw [← hX]
          clear hX
          have H8 := hide (keepG hG8 (by omega) H2.out)
          have HK8' := hide (keepG hG8 (by omega) HKw.out)
          have HB8 := hide (belowG HB.out hG8 (by omega) HB.out.size)
          have hz8 := heap_lt HK8'.out
          have Hz := hide (heap_last w8 (.cells (u8s (zeros 32)) 27))
          have H8a := hide (heap_old H8.out (.cells (u8s (zeros 32)) 27))
          have HK8a := hide (heap_old HK8'.out (.cells (u8s (zeros 32)) 27))
          have HB8a := hide (HB8.out.alloc HB8.out.size (.cells (u8s (zeros 32)) 27))
          clear hG8 H2 HKw HB H8 HK8' HB8 HTK HTw
          have hzR := heap_lt H8a.out
          go_wp2_with (refine wpList_store_whole rfl 27 (.tmp 10) (.tmp 28) rfl w8.heap.size X (zeros 32) 27 rfl rfl Hz.out HXl.out (by rw [infoS, HXl.out]) ?_)
          intro w9 HX9 HG9
          have hR8 : w.heap.size < w8.heap.size := by have := HB8a.out.size; simp at hzR; omega
          have H9 := hide (keepG HG9.out (by omega) H8a.out)
          have HK9 := hide (keepG HG9.out (by omega) HK8a.out)
          have HB9 := hide (belowG HB8a.out HG9.out (by omega) HB8a.out.size)
          clear Hz H8a HK8a HB8a HG9
          generalize w8.heap.size = XB at *
          refine of_hid ?_
          go_wp2_with (refine wpList_load_whole rfl 99 (.tmp 5) rfl KB K 99 (0, 0) rfl HK9.out _ Tryd.underlying99 rfl (by rw [info64, HKl.out]) ?_)
          refine (masked_c K 92 w9 HKl.out HK8.out (by omega)).mono ?_
          rintro e w10 ⟨rfl, hb10⟩
          obtain ⟨O, hO⟩ : ∃ O, O = mask 92 K := ⟨_, rfl⟩
          have HO := hide hO
          have HOl : Hid (O.length = 64) := by show _ = _; rw [hO, mask_length, HKl.out]
          have HO8 : Hid (All8 O) := by rw [hO]; exact mask_all (by omega) HK8.out
          rw [← hO]
          clear hO
          have H10 := hide (heap_old (below_blk hb10 (heap_lt H9.out) H9.out) (.cells (u8s (zeros 64)) 99))
          have HX10 := hide (heap_old (below_blk hb10 (heap_lt HX9.out) HX9.out) (.cells (u8s (zeros 64)) 99))
          have hz10 := heap_lt (below_blk hb10 (heap_lt HX9.out) HX9.out)
          have HBt := hide (keepB hb10 (Nat.le_refl _) HB9.out)
          have HB10 := hide (HBt.out.alloc HBt.out.size (.cells (u8s (zeros 64)) 99))
          have Hz10 := hide (heap_last w10 (.cells (u8s (zeros 64)) 99))
          clear hb10 H9 HX9 HK9 HB9
          go_wp2_with (refine wpList_store_whole rfl 99 (.tmp 11) (.tmp 30) rfl w10.heap.size O (zeros 64) 99 rfl rfl Hz10.out HOl.out (by rw [info64, HOl.out]) ?_)
          intro w11 HO11 HG11
          have H11 := hide (keepG HG11.out (by omega) H10.out)
          have HX11 := hide (keepG HG11.out (by omega) HX10.out)
          have HB11 := hide (belowG HB10.out HG11.out (by omega) HB10.out.size)
          have hOs := heap_lt HO11.out
          clear H10 HX10 HB10 HBt Hz10 HG11
          generalize w10.heap.size = OB at *
          refine of_hid ?_
          have hs1 := fun v : World => sliceAll64 v OB
          have hs2 := fun v : World => sliceAllS v XB
          as_aux_lemma =>
            go_wp2_with fail
            go_still_tail 2, (by kernel_rfl)
            show wpList _ _ _ _ _ w11.drew
            have HOd : Hid (w11.drew.heap[OB]? = some (.cells (u8s O) 99 (0, 0))) := HO11.out
            have HXd : Hid (w11.drew.heap[XB]? = some (.cells (u8s X) 27 (0, 0))) := HX11.out
            have HRd : Hid (w11.drew.heap[w.heap.size]? = some (.cells (u8s (zeros 32)) 27 (0, 0))) := H11.out
            have HBd := hide HB11.out.drew
            clear HO11 HX11 H11 HB11 hs1 hs2
            generalize w11.drew = w12 at *
            have HO12 := hide (heap_old HOd.out (.cells #[.slice (some ⟨OB, 0, none⟩) 64 64, .slice (some ⟨XB, 0, none⟩) 32 32] 31))
            have HX12 := hide (heap_old HXd.out (.cells #[.slice (some ⟨OB, 0, none⟩) 64 64, .slice (some ⟨XB, 0, none⟩) 32 32] 31))
            have HR12 := hide (heap_old HRd.out (.cells #[.slice (some ⟨OB, 0, none⟩) 64 64, .slice (some ⟨XB, 0, none⟩) 32 32] 31))
            have HP12 := hide (heap_last w12 (.cells #[.slice (some ⟨OB, 0, none⟩) 64 64, .slice (some ⟨XB, 0, none⟩) 32 32] 31))
            have HB12 := hide (HBd.out.alloc HBd.out.size (.cells #[.slice (some ⟨OB, 0, none⟩) 64 64, .slice (some ⟨XB, 0, none⟩) 32 32] 31))
            have hs12 := heap_lt HRd.out
            clear HOd HXd HRd HBd
            go_wp2_with fail
            generalize (w12.alloc (.cells #[.slice (some ⟨OB, 0, none⟩) 64 64, .slice (some ⟨XB, 0, none⟩) 32 32] 31)) = w13 at *
            generalize w12.heap.size = PB at *
            refine (of_c _ _ [⟨some ⟨OB, 0, none⟩, 64, 64, O⟩, ⟨some ⟨XB, 0, none⟩, 32, 32, X⟩] w13 (parts_two (srcB_whole HO12.out HO8.out HOl.out) (Nat.le_refl _) (srcB_whole HX12.out HX8.out HXl.out) (Nat.le_refl _) HP12.out)
              (tbl_keep HT.out HB12.out (Nat.le_refl _)) (fst_keep HF.out HB12.out (Nat.le_refl _)) (by rw [flat_two, List.length_append, HOl.out, HXl.out]; omega) (by simp)).mono ?_
            rintro e w14 ⟨rfl, hb14⟩
            rw [flat_two]
            have HR14 := hide (below_blk hb14 (heap_lt HR12.out) HR12.out)
            have HB14 := hide (keepB hb14 (Nat.le_refl _) HB12.out)
            clear hb14 HR12 HB12 HP12 HX12 HO12
            have HY : Hid (macL L (flat Ps) = sha (O ++ X)) := by
              show _ = _
              unfold macL
              rw [HO.out, HX.out, HM.out, HI.out, HK.out]
            have HYl : Hid ((sha (O ++ X)).length = 32) := rfl
            generalize sha (O ++ X) = Y at *
            go_wp2_with (refine wpList_store_whole rfl 27 (.tmp 4) (.tmp 34) rfl w.heap.size Y (zeros 32) 27 rfl rfl HR14.out HYl.out (by rw [infoS, HYl.out]) ?_)
            intro w15 H15 HG15
            have HB15 := hide (belowG HB14.out HG15.out (Nat.le_refl _) HB14.out.size)
            refine of_hid ?_
            go_wp2_with fail
            exact ret_whole Tryd.results19 w.heap.size Y 27 (0, 0) rfl H15.out _ Tryd.underlying27 rfl (by rw [infoS, HYl.out]) rfl ⟨by rw [HY.out], HB15.out⟩
end Go.Proofs.YtpaijhmbfljfmaaDoor.Smc
