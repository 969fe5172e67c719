/- BlockAlike's walk. -/
import Derived.Test.YtheambpddpfcfaaDoorKp
import Derived.Test.YtheambpddpfcfaaDoorBo
import Derived.BigQuiet
import Derived.Deep.QuietTactic
namespace Go.Proofs.YtheambpddpfcfaaDoor.BlockAlikeW
set_option linter.unusedVariables false
set_option linter.unusedSimpArgs false
set_option maxRecDepth 100000
open Go.ChangeShapes Go.WideShapes Go.ChangeAt Go.RowKit
open Go.Proofs.YtheambpddpfcfaaDoor.Wu Go.Proofs.YtheambpddpfcfaaDoor.Sm Go.Proofs.YtheambpddpfcfaaDoor.Sh Go.Proofs.YtheambpddpfcfaaDoor.Ba Go.Proofs.YtheambpddpfcfaaDoor.Bp Go.Proofs.YtheambpddpfcfaaDoor.Ka Go.Proofs.YtheambpddpfcfaaDoor.Kb Go.Proofs.YtheambpddpfcfaaDoor.Kc Go.Proofs.YtheambpddpfcfaaDoor.Kd Go.Proofs.YtheambpddpfcfaaDoor.Ke Go.Proofs.YtheambpddpfcfaaDoor.Kf Go.Proofs.YtheambpddpfcfaaDoor.Rk Go.Proofs.YtheambpddpfcfaaDoor.Rx Go.Proofs.YtheambpddpfcfaaDoor.Rw Go.Proofs.YtheambpddpfcfaaDoor.Kg Go.Proofs.YtheambpddpfcfaaDoor.Kp
open Go.Proofs.YtheambpddpfcfaaDoor.Sn (Fst fst_keep)
open Go.Proofs.YtheambpddpfcfaaDoor.Sxa (Tbl tbl_keep)
open Go.Proofs.YtheambpddpfcfaaDoor.Su (cutL Cnt)
attribute [local go_sem] kUpon_value kUpon_skip kUpon_enter
/-- What Make answers: the sums of D's blocks, or an error's number. -/
def AP (s k m n : Nat) (D : List Nat) (w : World) (e : Ending) (w' : World) : Prop :=
  ∃ av cv, e = .returned (.tuple #[sigV s k m (.slice av n cv), .int .i64 0]) ∧ IsBks .u32 w' (.slice av n cv) (mkB D s k n) ∧ Below w.heap.size w w'
theorem make_ap (a : Option Addr) (m c : Nat) (D : List Nat) (s k n : Nat) (w : World) (hs : SrcB w a m D) (hc : m ≤ c) (hcm : c ≤ 9223372036854775807) (hf : fitsE (s : Int) (k : Int) m = 0) (hn : cntZ m s = (n : Int)) (hT : Tbl w) (hF : Fst w) :
    Calls Tryd.prog 16 #[.slice a m c, .int .i64 (s : Int), .int .i64 (k : Int)] w (AP s k m n D w) := by
  refine (make_ok a m c D s k n w hs hc hcm hf hn hT hF).mono ?_
  rintro e w' ⟨v, rfl, ho, hb⟩
  have his := ho.is
  obtain ⟨_, av, cv, rfl, _⟩ := ho.is
  rw [mkB_length] at his
  exact ⟨av, cv, by rw [mkB_length], his, hb⟩
theorem mkB_at (D : List Nat) (s k n i : Nat) (hi : i < n) : (mkB D s k n)[i]? = some (blkOf k (piece D s i)) := by
  unfold mkB
  rw [List.getElem?_map, List.getElem?_range hi]
  rfl
theorem piece_app (D M : List Nat) (s i : Nat) (h : i * s + s ≤ D.length) : piece (D ++ M) s i = piece D s i := by
  unfold piece
  rw [List.drop_append_of_le_length (by omega), List.take_append_of_le_length (by rw [List.length_drop]; omega)]
theorem cnt_q {m s n : Nat} (hs : 1 ≤ s) (hn : cntZ m s = (n : Int)) : m / s ≤ n := by
  unfold cntZ at hn
  rw [if_neg (by omega)] at hn
  have e : (m : Int) / (s : Int) = ((m / s : Nat) : Int) := by simp
  rw [e] at hn
  split at hn <;> omega
theorem div_in {m s i : Nat} (hs : 1 ≤ s) (hi : i < m / s) : i * s + s ≤ m := by
  have h1 : (i + 1) * s ≤ m / s * s := Nat.mul_le_mul_right s hi
  have h2 : m / s * s ≤ m := Nat.div_mul_le_self m s
  rw [Nat.add_mul, Nat.one_mul] at h1
  omega
theorem out_walk (a a' : Option Addr) (m c m' c' : Nat) (x y : Int) (w : World) (hT : Tbl w) (hF : Fst w) (hg : 200 < m ∨ 200 < m') :
    Calls Tryd.prog 7 #[.slice a m c, .slice a' m' c', .agg #[.int .i64 x, .int .i64 y]] w fun e w' => e = .returned (.bool true) ∧ Below w.heap.size w w' := by
  have hn := below_new w (.cells #[.int .i64 x, .int .i64 y] 45)
  have HH := hide (sums_c (w.alloc (.cells #[.int .i64 x, .int .i64 y] 45)) (tbl_keep hT hn (Nat.le_refl _)) (fst_keep hF hn (Nat.le_refl _)))
  have HN := hide hn
  clear hT hF hn
  have hc : 200 < m ∨ (¬ 200 < m ∧ 200 < m') := by omega
  clear hg
  rcases hc with h1 | ⟨h1, h2⟩
  · have d1 : decide ((200 : Int) < (m : Int)) = true := by simp; omega
    have d1' : decide (200 < m) = true := by simp; omega
    clear h1
    go_enter Tryd.func7, Tryd.ntmps7
    go_wp2_with fail
    generalize (w.alloc (.cells #[.int .i64 x, .int .i64 y] 45)) = w0 at *
    refine HH.out.mono ?_
    rintro e w1 ⟨rfl, hb1⟩
    have HB1 := hide (keepB hb1 (Nat.le_refl _) HN.out)
    clear hb1
    go_wp2
    go_ret
    exact ⟨rfl, HB1.out⟩
  · have d1 : decide ((200 : Int) < (m : Int)) = false := by simp; omega
    have d1' : decide (200 < m) = false := by simp; omega
    have d2 : decide ((200 : Int) < (m' : Int)) = true := by simp; omega
    have d2' : decide (200 < m') = true := by simp; omega
    clear h1 h2
    go_enter Tryd.func7, Tryd.ntmps7
    go_wp2_with fail
    generalize (w.alloc (.cells #[.int .i64 x, .int .i64 y] 45)) = w0 at *
    refine HH.out.mono ?_
    rintro e w1 ⟨rfl, hb1⟩
    have HB1 := hide (keepB hb1 (Nat.le_refl _) HN.out)
    clear hb1
    go_wp2
    go_ret
    exact ⟨rfl, HB1.out⟩
set_option maxHeartbeats 3200000 in
theorem in_walk (a a' : Option Addr) (m c m' c' : Nat) (D M : List Nat) (s k n n' : Nat) (w : World) (hs : SrcB w a m D) (hc : m ≤ c) (hcm : c ≤ 9223372036854775807) (hnil : a = none → m = 0) (hs' : SrcB w a' m' M) (hnil' : a' = none → m' = 0) (hT : Tbl w) (hF : Fst w) (hm : m ≤ 200) (hm' : m' ≤ 200)
    (hf : fitsE (s : Int) (k : Int) m = 0) (hf' : fitsE (s : Int) (k : Int) ((m + m' : Nat) : Int) = 0) (hn : cntZ m s = (n : Int)) (hn' : cntZ ((m + m' : Nat) : Int) s = (n' : Int)) :
    Calls Tryd.prog 7 #[.slice a m c, .slice a' m' c', .agg #[.int .i64 (s : Int), .int .i64 (k : Int)]] w fun e w' => e = .returned (.bool true) ∧ Below w.heap.size w w' := by
  have hz := fitsE_zero hf
  have hs1 : 1 ≤ s := by omega
  have hs2 : s ≤ 4096 := by omega
  have hk : k ≤ 32 := by omega
  have hnw := below_new w (.cells #[.int .i64 (s : Int), .int .i64 (k : Int)] 45)
  have HH := hide (sums_c (w.alloc (.cells #[.int .i64 (s : Int), .int .i64 (k : Int)] 45)) (tbl_keep hT hnw (Nat.le_refl _)) (fst_keep hF hnw (Nat.le_refl _)))
  have HN := hide hnw
  have HP := hide (heap_last w (.cells #[.int .i64 (s : Int), .int .i64 (k : Int)] 45))
  have HT := hide hT
  have HF := hide hF
  have HS := hide hs
  have HS' := hide hs'
  have HA := hide (fun u (hu : Below w.heap.size w u) => make_ap a m c D s k n u (hs.below hu) hc hcm hf hn (tbl_keep hT hu (Nat.le_refl _)) (fst_keep hF hu (Nat.le_refl _)))
  have HA2 := hide (fun (g cap : Nat) u (hu : Below w.heap.size w u) (hd : Dst u g (m + m') cap (D ++ M)) => make_ap (some ⟨g, 0, none⟩) (m + m') cap (D ++ M) s k n' u hd.src hd.fit (by have := hd.max; unfold maxLen at this; omega) hf' hn' (tbl_keep hT hu (Nat.le_refl _)) (fst_keep hF hu (Nat.le_refl _)))
  have Hq := hide (cnt_q hs1 hn)
  have Hq' : Hid (m / s ≤ n') := hide (Nat.le_trans (Nat.div_le_div_right (by omega)) (cnt_q hs1 hn'))
  have Hnn : Hid (m' = 0 → n' = n) := hide (fun h => by subst h; rw [Nat.add_zero] at hn'; omega)
  have hln := hs.1
  have HAt := hide (fun (i : Nat) (hi : i < m / s) => (show (mkB D s k n)[i]? = some (blkOf k (piece D s i)) ∧ (mkB (D ++ M) s k n')[i]? = some (blkOf k (piece D s i)) from
    ⟨mkB_at D s k n i (Nat.lt_of_lt_of_le hi (cnt_q hs1 hn)), by
      rw [mkB_at (D ++ M) s k n' i (Nat.lt_of_lt_of_le hi (Nat.le_trans (Nat.div_le_div_right (by omega)) (cnt_q hs1 hn'))), piece_app D M s i (by rw [hln]; exact div_in hs1 hi)]⟩))
  have hn4 : n ≤ 4096 := by omega
  have hn4' : n' ≤ 4096 := by have := fitsE_zero hf'; omega
  obtain ⟨q, hqq⟩ : ∃ q, q = m / s := ⟨_, rfl⟩
  have hq200 : q ≤ 200 := by rw [hqq]; exact Nat.le_trans (Nat.div_le_self m s) hm
  have e1 : (m : Int).tdiv (s : Int) = (q : Int) := by rw [hqq, Int.tdiv_eq_ediv_of_nonneg (by omega)]; simp
  rw [← hqq] at Hq Hq' HAt
  have Hnil := hide hnil
  have Hnil' := hide hnil'
  clear hf hf' hnil hnil' hn hn' hz hs hs' hT hF hnw hqq hln
  have d1 : decide ((200 : Int) < (m : Int)) = false := by simp; omega
  have d1' : decide (200 < m) = false := by simp; omega
  have d2 : decide ((200 : Int) < (m' : Int)) = false := by simp; omega
  have d2' : decide (200 < m') = false := by simp; omega
  go_enter Tryd.func7, Tryd.ntmps7
  go_wp2_with fail
  generalize (w.alloc (.cells #[.int .i64 (s : Int), .int .i64 (k : Int)] 45)) = w0 at *
  refine HH.out.mono ?_
  rintro e w1 ⟨rfl, hb1⟩
  have HB1 := hide (keepB hb1 (Nat.le_refl _) HN.out)
  have HP1 := hide (below_blk hb1 (heap_lt HP.out) HP.out)
  clear hb1 HH HN HP
  have c0 : w1.cell? ⟨w.heap.size, 0, none⟩ = some (.int .i64 (s : Int)) := blk_cell HP1.out rfl
  have c1 : w1.cell? ⟨w.heap.size, 1, none⟩ = some (.int .i64 (k : Int)) := blk_cell HP1.out rfl
  go_wp2_with fail
  go_quiet (fail)
  have HB2 := hide (below_drewN HB1.out nq)
  clear HB1 HP1 c0 c1
  generalize w1.drewN nq = w2 at *
  go_wp2_with fail
  (with_reducible refine Calls.mono (HA.out w2 HB2.out) ?_)
  rintro e w3 ⟨a1, v1, rfl, hI1, hb3⟩
  have HB3 := hide (keepB hb3 (Nat.le_refl _) HB2.out)
  have HI3 := hide hI1
  clear hb3 hI1 HB2 HA
  unfold sigV
  have hd0 := dst_new (w3.alloc (.cells #[.int .i64 (s : Int), .int .i64 (k : Int), .int .i64 (m : Int), .slice a1 n v1] 26)) [] #[] 5 (0, 0) rfl (by intro z hz; cases hz) (by simp)
  simp only [World.size_alloc] at hd0
  have HD0 : Hid (Dst ((w3.alloc (.cells #[.int .i64 (s : Int), .int .i64 (k : Int), .int .i64 (m : Int), .slice a1 n v1] 26)).alloc (.cells #[] 5)) (w3.heap.size + 1) 0 0 []) := hide hd0
  have HC5 := hide (keepB (below_new (w3.alloc (.cells #[.int .i64 (s : Int), .int .i64 (k : Int), .int .i64 (m : Int), .slice a1 n v1] 26)) (.cells #[] 5)) (Nat.le_refl _) (below_new w3 (.cells #[.int .i64 (s : Int), .int .i64 (k : Int), .int .i64 (m : Int), .slice a1 n v1] 26)))
  have HS5 := hide (heap_old (heap_last w3 (.cells #[.int .i64 (s : Int), .int .i64 (k : Int), .int .i64 (m : Int), .slice a1 n v1] 26)) (.cells #[] 5))
  have hsr : Hid (SrcB ((w3.alloc (.cells #[.int .i64 (s : Int), .int .i64 (k : Int), .int .i64 (m : Int), .slice a1 n v1] 26)).alloc (.cells #[] 5)) a m D) := hide (HS.out.below (keepB HC5.out (Nat.le_refl _) HB3.out))
  have hw3 := HB3.out.size
  clear hd0
  go_wp2_with (refine wpList_append_dst rfl (.tmp 37) (.tmp 38) rfl (w3.heap.size + 1) 0 0 [] a m c D rfl rfl HD0.out hsr.out (by omega) Hnil.out ?_)
  generalize ((w3.alloc (.cells #[.int .i64 (s : Int), .int .i64 (k : Int), .int .i64 (m : Int), .slice a1 n v1] 26)).alloc (.cells #[] 5)) = w5 at *
  rintro g1 cap1 w6 HD1 HG1 hg1 -
  refine of_hid ?_
  have hw5 : w3.heap.size + 1 < w5.heap.size := HD0.out.lt
  have HC6 := hide (belowG HC5.out HG1.out (show w3.heap.size ≤ w3.heap.size + 1 by omega) HC5.out.size)
  have HS6 := hide (keepG HG1.out (by omega) HS5.out)
  have hg1' : w3.heap.size < g1 := by omega
  have hsr2 : Hid (SrcB w6 a' m' M) := hide (HS'.out.below (keepB HC6.out (Nat.le_refl _) HB3.out))
  clear HC5 HS5 HD0 HG1 hg1 hsr hw5
  go_wp2_with (refine wpList_append_dst rfl (.tmp 39) (.tmp 40) rfl g1 m cap1 D a' m' c' M rfl rfl HD1.out hsr2.out (by omega) Hnil'.out ?_)
  rintro g2 cap2 w7 HD2 HG2 hg2 -
  refine of_hid ?_
  have HC7 := hide (belowG HC6.out HG2.out (Nat.le_of_lt hg1') HC6.out.size)
  have HS7 := hide (keepG HG2.out (by omega) HS6.out)
  have HM2 := hide (HA2.out g2 cap2 w7 (keepB HC7.out (Nat.le_refl _) HB3.out) HD2.out)
  clear HC6 HS6 HG2 hg2 hsr2 HD1 HD2 HA2 hg1'
  go_wp2_with fail
  refine HM2.out.mono ?_
  rintro e w8 ⟨a2, v2, rfl, hI2, hb8⟩
  generalize ((m + m' : Nat) : Int) = l2 at *
  have HC8 := hide (keepB hb8 (Nat.le_refl _) HC7.out)
  have HS8 := hide (below_blk hb8 (heap_lt HS7.out) HS7.out)
  have hn9 := below_new w8 (.cells #[.int .i64 (s : Int), .int .i64 (k : Int), .int .i64 l2, .slice a2 n' v2] 26)
  have HC9 := hide (keepB hn9 (Nat.le_refl _) HC8.out)
  have HS9 := hide (heap_old HS8.out (.cells #[.int .i64 (s : Int), .int .i64 (k : Int), .int .i64 l2, .slice a2 n' v2] 26))
  have HS2 := hide (heap_last w8 (.cells #[.int .i64 (s : Int), .int .i64 (k : Int), .int .i64 l2, .slice a2 n' v2] 26))
  have HI2 := hide (hI2.below hn9)
  have HI1 := hide (HI3.out.below HC9.out)
  have HB9 := hide (keepB HC9.out (Nat.le_refl _) HB3.out)
  have hl8 : w3.heap.size < w8.heap.size := heap_lt HS8.out
  clear hb8 hI2 hn9 HC8 HS8 HC9 HI3 HB3 HC7 HS7 HM2
  unfold sigV
  obtain ⟨c0, c1, c2, c3⟩ := Sig4.cells (T := 26) HS9.out
  obtain ⟨p0, p1, p2, p3⟩ := Sig4.cells (T := 26) HS2.out
  have hqn := Hq.out
  have hqn' := Hq'.out
  have hne : w3.heap.size ≠ w8.heap.size := by omega
  have f1 : decide ((n : Int) < (q : Int)) = false := by simp; omega
  have f1' : decide (n < q) = false := by simp; omega
  have f2 : decide ((n' : Int) < (q : Int)) = false := by simp; omega
  have f2' : decide (n' < q) = false := by simp; omega
  go_wp2_with fail
  clear f1 f1' f2 f2'
  clear c0 c1 c2 c3 p0 p1 p2 p3
  generalize (w8.alloc (.cells #[.int .i64 (s : Int), .int .i64 (k : Int), .int .i64 l2, .slice a2 n' v2] 26)) = w9 at *
  generalize w3.heap.size = X1 at *
  generalize w8.heap.size = X2 at *
  obtain ⟨b1, y1, g1, o1, ev1, -, hv1, ha1, hat1⟩ := HI1.out.at
  obtain ⟨b2, y2, g2, o2, ev2, -, hv2, ha2, hat2⟩ := HI2.out.at
  rw [mkB_length] at ev1 ha1 ev2 ha2
  injection ev1 with x1 x2 x3
  injection ev2 with z1 z2 z3
  subst x1 x3 z1 z3
  have Hat1 := hide hat1
  have Hat2 := hide hat2
  have Ha1 := hide ha1
  have Ha2 := hide ha2
  clear x2 z2 hat1 hat2 ha1 ha2 HI1 HI2
  go_loopw [70] (fun j wr => ∃ i, j = .int .i64 ((i : Nat) : Int) ∧ i ≤ q ∧ wr.heap[X1]? = some (.cells #[.int .i64 (s : Int), .int .i64 (k : Int), .int .i64 (m : Int), .slice a1 n v1] 26 (0, 0)) ∧ wr.heap[X2]? = some (.cells #[.int .i64 (s : Int), .int .i64 (k : Int), .int .i64 l2, .slice a2 n' v2] 26 (0, 0)) ∧ Below w9.heap.size w9 wr) (fun j _ => q - (intOf j).toNat)
  case atStart => exact ⟨0, rfl, Nat.zero_le _, HS9.out, HS2.out, Below.refl _ _⟩
  case round =>
    clear HS9 HS2
    obtain ⟨i, rfl, hi, hX1, hX2, hW⟩ := hrel
    have HX1 := hide hX1
    have HX2 := hide hX2
    have HW := hide hW
    clear hX1 hX2 hW
    by_cases hlt : i < q
    · obtain ⟨hA1, hA2⟩ := HAt.out i hlt
      obtain ⟨b, hbb⟩ : ∃ b, b = blkOf k (piece D s i) := ⟨_, rfl⟩
      rw [← hbb] at hA1 hA2
      obtain ⟨hbok, hr1⟩ := Hat1.out i b hA1
      obtain ⟨-, hr2⟩ := Hat2.out i b hA2
      have HR76 := hide (fun u (hu : Below w9.heap.size w9 u) => range_below hr1 hu)
      have HR81 := hide (fun u (hu : Below w9.heap.size w9 u) => range_below hr2 hu)
      have ea1 := Ha1.out (by omega)
      have ea2 := Ha2.out (by omega)
      subst ea1 ea2
      clear hr1 hr2 hA1 hA2 hbb
      have d3 : decide ((i : Int) < (q : Int)) = true := by simpa using hlt
      have i1 : (0 : Int) ≤ (i : Int) := by omega
      have i2 : (i : Int) < (n : Int) := by omega
      have i3 : (i : Int) < (n' : Int) := by omega
      have hsz : (blkC .u32 b).length = 33 := blkC_length hbok
      have hq := fun u => blk_eq b b hbok hbok u
      rw [show decide (b = b) = true by simp] at hq
      have hmg : Tryd.prog.eqGuardType Tryd.prog.depth 63 = false := by kernel_rfl
      go_wp2_with fail
      refine wp_region_keep (fun u => u.heap[X1]? = some (.cells #[.int .i64 (s : Int), .int .i64 (k : Int), .int .i64 (m : Int), .slice (some ⟨g1, o1, none⟩) n v1] 26 (0, 0)) ∧ u.heap[X2]? = some (.cells #[.int .i64 (s : Int), .int .i64 (k : Int), .int .i64 l2, .slice (some ⟨g2, o2, none⟩) n' v2] 26 (0, 0)) ∧ Below w9.heap.size w9 u) (by kernel_rfl) (by kernel_rfl) ⟨HX1.out, HX2.out, HW.out.drew⟩ ?_
      repeat (first
        | (refine keep_step (v := .agg (blkC .u32 b).toArray) (by rfl) (fun u K hS hK => kUpon_load_mid 63 (.tmp 76) rfl g1 (o1 + i * 33) _ rfl (run_loadVar_mid (P := Tryd.prog) u g1 (o1 + i * 33) 63 (blkC .u32 b) _ (HR76.out u hS.2.2) Tryd.underlying63 rfl (by rw [hsz]; kernel_rfl)) (hK _ hS)) ?_
           simp only [Act.put, List.setIfInBounds_toArray, List.set_cons_zero, List.set_cons_succ])
        | (refine keep_step (v := .agg (blkC .u32 b).toArray) (by rfl) (fun u K hS hK => kUpon_load_mid 63 (.tmp 81) rfl g2 (o2 + i * 33) _ rfl (run_loadVar_mid (P := Tryd.prog) u g2 (o2 + i * 33) 63 (blkC .u32 b) _ (HR81.out u hS.2.2) Tryd.underlying63 rfl (by rw [hsz]; kernel_rfl)) (hK _ hS)) ?_
           simp only [Act.put, List.setIfInBounds_toArray, List.set_cons_zero, List.set_cons_succ])
        | (refine keep_step (v := ?_) (by rfl) (fun u K hS hK => ?_) ?_
           rotate_left
           · obtain ⟨c0, c1, c2, c3⟩ := Sig4.cells (T := 26) hS.1
             obtain ⟨q0, q1, q2, q3⟩ := Sig4.cells (T := 26) hS.2.1
             (go_simp; with_reducible exact hK _ hS)
           simp only [Act.put, List.setIfInBounds_toArray, List.set_cons_zero, List.set_cons_succ]))
      refine keep_nil (fun wA hSA => ?_)
      have HSA := hide hSA
      clear hSA HX1 HX2 HW hq hmg
      go_wp2
      go_roundw
      case rel => exact ⟨i + 1, by go_num, by omega, HSA.out.1, HSA.out.2.1, HSA.out.2.2⟩
      case measure => simp [intOf]; omega
    · obtain rfl : i = q := by omega
      obtain ⟨c0, c1, c2, c3⟩ := Sig4.cells (T := 26) HX1.out
      obtain ⟨p0, p1, p2, p3⟩ := Sig4.cells (T := 26) HX2.out
      have hd : decide ((i : Int) < (i : Int)) = false := by simp
      have HBe := hide (keepB HW.out (Nat.le_refl _) HB9.out)
      by_cases hm0 : 0 < m'
      · have d5 : decide ((0 : Int) < (m' : Int)) = true := by simp; omega
        have d5' : decide (0 < m') = true := by simp; omega
        go_wp2
        go_ret
        exact ⟨rfl, HBe.out⟩
      · have d5 : decide ((0 : Int) < (m' : Int)) = false := by simp; omega
        have d5' : decide (0 < m') = false := by simp; omega
        have hnn := Hnn.out (by omega)
        subst hnn
        have d7 : ((n' : Int) == (n' : Int)) = true := by simp
        go_wp2
        go_ret
        exact ⟨rfl, HBe.out⟩
set_option maxHeartbeats 1600000 in
theorem bad_walk (a a' : Option Addr) (m c m' c' : Nat) (D M : List Nat) (x y : Int) (w : World) (hs : SrcB w a m D) (hc : m ≤ c) (hcm : c ≤ 9223372036854775807) (hnil : a = none → m = 0) (hs' : SrcB w a' m' M) (hnil' : a' = none → m' = 0) (hT : Tbl w) (hF : Fst w) (hm : m ≤ 200) (hm' : m' ≤ 200)
    (hf : fitsE x y m = 1) (hf' : fitsE x y ((m + m' : Nat) : Int) = 1) :
    Calls Tryd.prog 7 #[.slice a m c, .slice a' m' c', .agg #[.int .i64 x, .int .i64 y]] w fun e w' => e = .returned (.bool true) ∧ Below w.heap.size w w' := by
  have hnw := below_new w (.cells #[.int .i64 x, .int .i64 y] 45)
  have HH := hide (sums_c (w.alloc (.cells #[.int .i64 x, .int .i64 y] 45)) (tbl_keep hT hnw (Nat.le_refl _)) (fst_keep hF hnw (Nat.le_refl _)))
  have HN := hide hnw
  have HP := hide (heap_last w (.cells #[.int .i64 x, .int .i64 y] 45))
  have HS := hide hs
  have HS' := hide hs'
  have hA : ∀ u, Calls Tryd.prog 16 #[.slice a m c, .int .i64 x, .int .i64 y] u fun e w' => e = .returned (.tuple #[sigV 0 0 0 (.slice none 0 0), .int .i64 1]) ∧ Below u.heap.size u w' := fun u => by
    have h := make_bad a m c x y u (by omega) (by rw [hf]; decide)
    rwa [hf] at h
  have hA2 : ∀ (g cap : Nat) u, Calls Tryd.prog 16 #[.slice (some ⟨g, 0, none⟩) (m + m') cap, .int .i64 x, .int .i64 y] u fun e w' => e = .returned (.tuple #[sigV 0 0 0 (.slice none 0 0), .int .i64 1]) ∧ Below u.heap.size u w' := fun g cap u => by
    have h := make_bad (some ⟨g, 0, none⟩) (m + m') cap x y u (by omega) (by rw [hf']; decide)
    rwa [hf'] at h
  have HA := hide hA
  have HA2 := hide hA2
  have Hnil := hide hnil
  have Hnil' := hide hnil'
  clear hf hf' hnil hnil' hs hs' hT hF hnw hA hA2
  have d1 : decide ((200 : Int) < (m : Int)) = false := by simp; omega
  have d1' : decide (200 < m) = false := by simp; omega
  have d2 : decide ((200 : Int) < (m' : Int)) = false := by simp; omega
  have d2' : decide (200 < m') = false := by simp; omega
  go_enter Tryd.func7, Tryd.ntmps7
  go_wp2_with fail
  generalize (w.alloc (.cells #[.int .i64 x, .int .i64 y] 45)) = w0 at *
  refine HH.out.mono ?_
  rintro e w1 ⟨rfl, hb1⟩
  have HB1 := hide (keepB hb1 (Nat.le_refl _) HN.out)
  have HP1 := hide (below_blk hb1 (heap_lt HP.out) HP.out)
  clear hb1 HH HN HP
  have c0 : w1.cell? ⟨w.heap.size, 0, none⟩ = some (.int .i64 x) := blk_cell HP1.out rfl
  have c1 : w1.cell? ⟨w.heap.size, 1, none⟩ = some (.int .i64 y) := blk_cell HP1.out rfl
  go_wp2_with fail
  go_quiet (fail)
  have HB2 := hide (below_drewN HB1.out nq)
  clear HB1 HP1 c0 c1
  generalize w1.drewN nq = w2 at *
  go_wp2_with fail
  (with_reducible refine Calls.mono (HA.out w2) ?_)
  rintro e w3 ⟨rfl, hb3⟩
  have HB3 := hide (keepB hb3 (Nat.le_refl _) HB2.out)
  clear hb3 HB2 HA
  unfold sigV at HA2 ⊢
  have hd0 := dst_new (w3.alloc (.cells #[.int .i64 0, .int .i64 0, .int .i64 0, .slice none 0 0] 26)) [] #[] 5 (0, 0) rfl (by intro z hz; cases hz) (by simp)
  simp only [World.size_alloc] at hd0
  have HD0 : Hid (Dst ((w3.alloc (.cells #[.int .i64 0, .int .i64 0, .int .i64 0, .slice none 0 0] 26)).alloc (.cells #[] 5)) (w3.heap.size + 1) 0 0 []) := hide hd0
  have HC5 := hide (keepB (below_new (w3.alloc (.cells #[.int .i64 0, .int .i64 0, .int .i64 0, .slice none 0 0] 26)) (.cells #[] 5)) (Nat.le_refl _) (below_new w3 (.cells #[.int .i64 0, .int .i64 0, .int .i64 0, .slice none 0 0] 26)))
  have hsr : Hid (SrcB ((w3.alloc (.cells #[.int .i64 0, .int .i64 0, .int .i64 0, .slice none 0 0] 26)).alloc (.cells #[] 5)) a m D) := hide (HS.out.below (keepB HC5.out (Nat.le_refl _) HB3.out))
  have hw3 := HB3.out.size
  clear hd0
  go_wp2_with (refine wpList_append_dst rfl (.tmp 37) (.tmp 38) rfl (w3.heap.size + 1) 0 0 [] a m c D rfl rfl HD0.out hsr.out (by omega) Hnil.out ?_)
  generalize ((w3.alloc (.cells #[.int .i64 0, .int .i64 0, .int .i64 0, .slice none 0 0] 26)).alloc (.cells #[] 5)) = w5 at *
  rintro g1 cap1 w6 HD1 HG1 hg1 -
  refine of_hid ?_
  have hw5 : w3.heap.size + 1 < w5.heap.size := HD0.out.lt
  have HC6 := hide (belowG HC5.out HG1.out (show w3.heap.size ≤ w3.heap.size + 1 by omega) HC5.out.size)
  have hg1' : w3.heap.size < g1 := by omega
  have hsr2 : Hid (SrcB w6 a' m' M) := hide (HS'.out.below (keepB HC6.out (Nat.le_refl _) HB3.out))
  clear HC5 HD0 HG1 hg1 hsr hw5
  go_wp2_with (refine wpList_append_dst rfl (.tmp 39) (.tmp 40) rfl g1 m cap1 D a' m' c' M rfl rfl HD1.out hsr2.out (by omega) Hnil'.out ?_)
  rintro g2 cap2 w7 HD2 HG2 hg2 -
  refine of_hid ?_
  have HC7 := hide (belowG HC6.out HG2.out (Nat.le_of_lt hg1') HC6.out.size)
  have HM2 := hide (HA2.out g2 cap2 w7)
  clear HC6 HG2 hg2 hsr2 HD1 HD2 HA2 hg1'
  go_wp2_with fail
  refine HM2.out.mono ?_
  rintro e w8 ⟨rfl, hb8⟩
  have HB8 := hide (keepB hb8 (Nat.le_refl _) (keepB HC7.out (Nat.le_refl _) HB3.out))
  clear hb8 HC7 HB3 HM2
  have HB9 := hide (keepB (below_new w8 (.cells #[.int .i64 0, .int .i64 0, .int .i64 0, .slice none 0 0] 26)) (Nat.le_refl _) HB8.out)
  go_wp2
  go_ret
  exact ⟨rfl, HB9.out⟩
theorem fits_more {x y : Int} {m m' : Nat} (hm : m ≤ 200) (hm' : m' ≤ 200) : (fitsE x y m = 0 ∧ fitsE x y ((m + m' : Nat) : Int) = 0) ∨ (fitsE x y m = 1 ∧ fitsE x y ((m + m' : Nat) : Int) = 1) := by
  have h : ∀ l : Nat, l ≤ 400 → ¬ (x < 1 ∨ 4096 < x ∨ y < 0 ∨ 32 < y) → fitsE x y (l : Int) = 0 := by
    intro l hl hx
    unfold fitsE
    rw [if_neg (by omega), if_neg]
    unfold cntZ
    rw [if_neg (by omega)]
    have h1 : (l : Int) / x ≤ l := Int.ediv_le_self x (by omega)
    have h2 : (0 : Int) ≤ (l : Int) / x := Int.ediv_nonneg (by omega) (by omega)
    split <;> omega
  by_cases hx : x < 1 ∨ 4096 < x ∨ y < 0 ∨ 32 < y
  · right
    constructor <;> (unfold fitsE; rw [if_pos (by omega)])
  · exact .inl ⟨h m (by omega) hx, h (m + m') (by omega) hx⟩
theorem walk_any (a a' : Option Addr) (m c m' c' : Nat) (D M : List Nat) (x y : Int) (w : World) (hs : SrcB w a m D) (hc : m ≤ c) (hcm : c ≤ 9223372036854775807) (hnil : a = none → m = 0) (hs' : SrcB w a' m' M) (hnil' : a' = none → m' = 0) (hT : Tbl w) (hF : Fst w) :
    Calls Tryd.prog 7 #[.slice a m c, .slice a' m' c', .agg #[.int .i64 x, .int .i64 y]] w fun e w' => e = .returned (.bool true) ∧ Below w.heap.size w w' := by
  by_cases hg : 200 < m ∨ 200 < m'
  · exact out_walk a a' m c m' c' x y w hT hF hg
  · rcases fits_more (x := x) (y := y) (show m ≤ 200 by omega) (show m' ≤ 200 by omega) with ⟨hf, hf'⟩ | ⟨hf, hf'⟩
    · have hz := fitsE_zero hf
      obtain ⟨s, rfl⟩ := Int.eq_ofNat_of_zero_le (show 0 ≤ x by omega)
      obtain ⟨k, rfl⟩ := Int.eq_ofNat_of_zero_le (show 0 ≤ y by omega)
      obtain ⟨n, hn⟩ : ∃ n : Nat, cntZ (m : Int) (s : Int) = (n : Int) := ⟨(cntZ (m : Int) (s : Int)).toNat, by have := cntZ_nonneg (m : Int) (s : Int); omega⟩
      obtain ⟨n', hn'⟩ : ∃ n' : Nat, cntZ ((m + m' : Nat) : Int) (s : Int) = (n' : Int) := ⟨(cntZ ((m + m' : Nat) : Int) (s : Int)).toNat, by have := cntZ_nonneg ((m + m' : Nat) : Int) (s : Int); omega⟩
      exact in_walk a a' m c m' c' D M s k n n' w hs hc hcm hnil hs' hnil' hT hF (by omega) (by omega) hf hf' hn hn'
    · exact bad_walk a a' m c m' c' D M x y w hs hc hcm hnil hs' hnil' hT hF (by omega) (by omega) hf hf'
end Go.Proofs.YtheambpddpfcfaaDoor.BlockAlikeW
