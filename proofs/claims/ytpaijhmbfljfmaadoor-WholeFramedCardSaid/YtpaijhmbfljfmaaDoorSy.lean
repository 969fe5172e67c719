/- keyBlock, masked: a key as a block; a block under a mask. -/
import Derived.Test.YtpaijhmbfljfmaaDoorSv
import Derived.Test.YtpaijhmbfljfmaaDoorSu
import Derived.Test.YtpaijhmbfljfmaaDoorSt
import Derived.StillTailTactics
namespace Go.Proofs.YtpaijhmbfljfmaaDoor.Sy
set_option linter.unusedVariables false
set_option linter.unusedSimpArgs false
set_option maxRecDepth 100000
open Go.ChangeShapes Go.WideShapes Go.ChangeAt Go.RowKit
open Go.Proofs.YtpaijhmbfljfmaaDoor.Wu Go.Proofs.YtpaijhmbfljfmaaDoor.Sm Go.Proofs.YtpaijhmbfljfmaaDoor.Sk Go.Proofs.YtpaijhmbfljfmaaDoor.Sc Go.Proofs.YtpaijhmbfljfmaaDoor.Sxa Go.Proofs.YtpaijhmbfljfmaaDoor.Sh Go.Proofs.YtpaijhmbfljfmaaDoor.Sn Go.Proofs.YtpaijhmbfljfmaaDoor.Sw0 Go.Proofs.YtpaijhmbfljfmaaDoor.Sx Go.Proofs.YtpaijhmbfljfmaaDoor.Sw Go.Proofs.YtpaijhmbfljfmaaDoor.Sb Go.Proofs.YtpaijhmbfljfmaaDoor.Sf Go.Proofs.YtpaijhmbfljfmaaDoor.So Go.Proofs.YtpaijhmbfljfmaaDoor.Su Go.Proofs.YtpaijhmbfljfmaaDoor.St Go.Proofs.YtpaijhmbfljfmaaDoor.Sv

/-- A key as a block. -/
def keyL (L : List Nat) : List Nat := if 64 < L.length then sha L ++ zeros 32 else L ++ zeros (64 - L.length)
theorem keyL_length (L : List Nat) : (keyL L).length = 64 := by
  unfold keyL
  split
  · simp [sha_length, zeros]
  · simp [zeros]; omega
theorem keyL_all {L : List Nat} (h : All8 L) : All8 (keyL L) := by
  unfold keyL
  split
  · exact all8_append (all8_sha L) (all8_zeros _)
  · exact all8_append h (all8_zeros _)
/-- Under a mask. -/
def mask (c : Nat) (X : List Nat) : List Nat := X.map fun x => x ^^^ c
theorem mask_length (c : Nat) (X : List Nat) : (mask c X).length = X.length := by simp [mask]
theorem xor8 {x c : Nat} (hx : x < 256) (hc : c < 256) : x ^^^ c < 256 := Nat.xor_lt_two_pow (n := 8) hx hc
theorem mask_all {c : Nat} {X : List Nat} (hc : c < 256) (h : All8 X) : All8 (mask c X) := by
  intro x hx
  simp only [mask, List.mem_map] at hx
  obtain ⟨y, hy, rfl⟩ := hx
  exact xor8 (h y hy) hc
def maskR (c : Nat) (X : List Nat) (k : Nat) : List Nat := mask c (X.take k) ++ X.drop k
theorem maskR_length (c : Nat) (X : List Nat) (k : Nat) : (maskR c X k).length = X.length := by simp [maskR, mask]; omega
theorem maskR_at (c : Nat) (X : List Nat) (k : Nat) (hk : k < X.length) : (maskR c X k).getD k 0 = X.getD k 0 := by
  have h1 : (mask c (X.take k)).length = k := by simp [mask]; omega
  simp only [maskR, List.getD]
  rw [List.getElem?_append_right (by omega), h1, Nat.sub_self, List.getElem?_drop, Nat.add_zero]
theorem maskR_step (c : Nat) (X : List Nat) (k : Nat) (hk : k < X.length) : (maskR c X k).set k (X.getD k 0 ^^^ c) = maskR c X (k + 1) := by
  have h1 : (mask c (X.take k)).length = k := by simp [mask]; omega
  have e1 : X.take (k + 1) = X.take k ++ [X.getD k 0] := by rw [List.take_succ_eq_append_getElem hk]; simp [List.getD, hk]
  have e2 : X.drop k = X.getD k 0 :: X.drop (k + 1) := by rw [List.drop_eq_getElem_cons hk]; simp [List.getD, hk]
  unfold maskR
  rw [e1, e2, List.set_append_right _ _ (by omega), h1, Nat.sub_self, List.set_cons_zero]
  simp [mask]
theorem maskR_end (c : Nat) (X : List Nat) : maskR c X X.length = mask c X := by simp [maskR]
theorem xor_u8 (x c : Nat) (hx : x < 256) (hc : c < 256) : bits .xor .u8 (x : Int) (c : Int) = ((x ^^^ c : Nat) : Int) := by
  rw [u8_xor _ _ (by omega) (by omega) (by omega) (by omega)]
  simp
theorem info64 : (Tryd.prog.info? 99).map (·.size) = some 64 := by kernel_rfl
set_option maxHeartbeats 1600000 in
set_option maxRecDepth 100000 in
theorem masked_c (X : List Nat) (c : Nat) (w : World) (hX : X.length = 64) (h8 : All8 X) (hc : c < 256) :
    Calls Tryd.prog 63 #[.agg (u8s X), .int .u8 (c : Int)] w fun e w' => e = .returned (.agg (u8s (mask c X))) ∧ Below w.heap.size w w' := by
  have HX := hide hX
  have H0 := hide (heap_2a w (.cells (u8s X) 99) (.cells (u8s (zeros 64)) 99))
  have H1 := hide (heap_2b w (.cells (u8s X) 99) (.cells (u8s (zeros 64)) 99))
  have HB := hide (((Below.refl w.heap.size w).alloc (Nat.le_refl _) (.cells (u8s X) 99)).alloc (by simp) (.cells (u8s (zeros 64)) 99))
  clear hX
  go_enter Tryd.func63, Tryd.ntmps63
  go_wp2_with fail
  rw [zlit64]
  generalize ((w.alloc (.cells (u8s X) 99)).alloc (.cells (u8s (zeros 64)) 99)) = w1 at *
  go_loopw [6, 5] (fun i _ wr => ∃ k : Nat, k ≤ 64 ∧ i = .int .i64 k ∧ wr.heap[w.heap.size]? = some (.cells (u8s (maskR c X k)) 99 (0, 0)) ∧ wr.heap[w.heap.size + 1]? = some (.cells (u8s (zeros 64)) 99 (0, 0)) ∧ Below w.heap.size w wr) (fun i _ _ => 64 - (intOf i).toNat)
  case atStart => exact ⟨0, by omega, rfl, H0.out, H1.out, HB.out⟩
  case round =>
    clear H0 H1 HB
    obtain ⟨k, hk, rfl, h1, h2, hb⟩ := hrel
    have H1 := hide h1
    have H2 := hide h2
    have HB := hide hb
    clear h1 h2 hb
    by_cases hlk : k < 64
    · have hx8 := all8_getD h8 k
      have Hst := hide (maskR_step c X k (by rw [HX.out]; exact hlk))
      have cx := row8 (i := k) H1.out (by rw [maskR_length, HX.out]; exact hlk)
      rw [maskR_at c X k (by rw [HX.out]; exact hlk)] at cx
      have fx := blk_free (i := k) H1.out
      obtain ⟨x, hx⟩ : ∃ x, x = X.getD k 0 := ⟨_, rfl⟩
      rw [← hx] at cx hx8 Hst
      clear hx
      have hd : decide ((k : Int) < 64) = true := by simp; omega
      have k0 : (0 : Int) ≤ (k : Int) := by omega
      have k1 : (k : Int) < 64 := by omega
      have hxo := xor_u8 x c hx8 hc
      go_wp2
      go_roundw
      case rel =>
        have e := blk_set (i := k) H1.out (.int .u8 ((x ^^^ c : Nat) : Int))
        rw [u8s_set, Hst.out] at e
        exact ⟨k + 1, by omega, by go_num, e, blk_set_other H2.out (by omega) _, HB.out.setCell (Nat.le_refl _) _⟩
      case measure => simp [intOf]; omega
    · have hk8 : k = 64 := by omega
      subst hk8
      have h1 := H1.out
      rw [← HX.out, maskR_end] at h1
      have Hl : Hid ((mask c X).length = 64) := by show _ = _; rw [mask_length, HX.out]
      have H3 := hide h1
      clear h1 H1
      have hd : decide (((64 : Nat) : Int) < 64) = false := by simp
      go_wp2_with (first
        | (refine wpList_load_whole rfl 99 (.tmp 2) rfl w.heap.size (mask c X) 99 (0, 0) rfl H3.out _ Tryd.underlying99 rfl (by rw [info64, Hl.out]) ?_)
        | (refine wpList_store_whole rfl 99 (.tmp 4) (.tmp 16) rfl (w.heap.size + 1) (mask c X) (zeros 64) 99 rfl rfl H2.out Hl.out (by rw [info64, Hl.out]) ?_))
      intro w5 H5 HG5
      have HB5 := hide (belowG HB.out HG5.out (by omega) HB.out.size)
      refine of_hid ?_
      go_wp2_with fail
      exact ret_whole Tryd.results63 (w.heap.size + 1) (mask c X) 99 (0, 0) rfl H5.out _ Tryd.underlying99 rfl (by rw [info64, Hl.out]) rfl ⟨rfl, HB5.out⟩
/-- The row behind the copied bytes. -/
theorem splice_key (L : List Nat) (h : L.length ≤ 64) : (splice (b8 (zeros 64)) 0 (b8 L)).toArray = u8s (L ++ zeros (64 - L.length)) := by
  unfold splice
  rw [List.take_zero, List.nil_append, Nat.zero_add, b8_length, u8s_b8]
  have e : (b8 (zeros 64)).drop L.length = b8 (zeros (64 - L.length)) := by unfold b8 zeros; rw [← List.map_drop, List.drop_replicate]
  rw [e]
  unfold b8
  rw [List.map_append]
theorem b8_get {w : World} {B off m : Nat} {L : List Nat} (hl : L.length = m) (hc : ∀ i, i < m → w.cell? ⟨B, off + i, none⟩ = some (.int .u8 ((L.getD i 0 : Nat) : Int))) : ∀ j v, (b8 L)[j]? = some v → w.cell? ((⟨B, off, none⟩ : Addr).add j) = some v := by
  intro j v hv
  obtain ⟨hj, rfl⟩ := b8_at hv
  rw [Addr.add_mid]
  exact hc j (by omega)
set_option maxHeartbeats 1600000 in
set_option maxRecDepth 100000 in
theorem key_short (a : Option Addr) (m c : Nat) (L : List Nat) (w : World) (hs : SrcB w a m L) (hc : m ≤ c) (hm : m ≤ 64) :
    Calls Tryd.prog 62 #[.slice a m c] w fun e w' => e = .returned (.agg (u8s (L ++ zeros (64 - L.length)))) ∧ Below w.heap.size w w' := by
  have HS := hide hs
  have HL := hide hs.1
  have H0 := hide (heap_2a w (.cells (u8s (zeros 64)) 99) (.cells (u8s (zeros 64)) 99))
  have H1 := hide (heap_2b w (.cells (u8s (zeros 64)) 99) (.cells (u8s (zeros 64)) 99))
  have HB := hide (((Below.refl w.heap.size w).alloc (Nat.le_refl _) (.cells (u8s (zeros 64)) 99)).alloc (by simp) (.cells (u8s (zeros 64)) 99))
  clear hs
  have hd : decide (64 < m) = false := by simp; omega
  have hd2 : decide ((64 : Int) < (m : Int)) = false := by simp; omega
  have hsl := fun v : World => sliceAll64 v (w.heap.size + 1)
  go_enter Tryd.func62, Tryd.ntmps62
  go_wp2_with (refine wpList_copy_splice rfl (.tmp 14) (.tmp 15) 31 31 rfl 5 Tryd.underlying31 info_u8s (some ⟨w.heap.size + 1, 0, none⟩) a 64 64 m c rfl rfl (w.heap.size + 1) 0 (b8 (zeros 64)) 99 H1.out (b8 L) ?_ ?_ ?_ (b8_one L) (w.heap.size + 1) _ (Below.refl _ _) (Nat.le_refl _) ?_)
  · rw [b8_length, HL.out]; show m = min m 64; omega
  · intro hp
    obtain ⟨h1, h2, b, off, h3, h4⟩ := HS.out
    rw [b8_length, h1] at hp
    have key := b8_get (w := ((w.alloc (.cells (u8s (zeros 64)) 99)).alloc (.cells (u8s (zeros 64)) 99))) h1 (fun i hi => keepC HB.out (Nat.le_refl _) (h4 i hi))
    first
      | exact ⟨rfl, ⟨b, off, none⟩, h3 hp, key⟩
      | exact ⟨⟨b, off, none⟩, h3 hp, key⟩
  · rw [b8_length, b8_length, HL.out, zeros_length]; omega
  intro w2 H2 HB2
  have H2' := H2.out
  rw [splice_key L (by rw [HL.out]; exact hm)] at H2'
  have HK := hide H2'
  have HR := hide (below_blk HB2 (by omega) H0.out)
  have HBB : Hid (Below w.heap.size w w2) := HB.out.trans (HB2.mono (by omega))
  have HYl : Hid ((L ++ zeros (64 - L.length)).length = 64) := by show _ = _; rw [List.length_append, zeros_length, HL.out]; omega
  obtain ⟨Y, hY⟩ : ∃ Y, Y = L ++ zeros (64 - L.length) := ⟨_, rfl⟩
  have HY := hide hY
  rw [← hY] at HK HYl
  clear H2 H2' HB2 H0 H1 HB hsl hY
  go_wp2_with (first
    | (refine wpList_load_whole rfl 99 (.tmp 3) rfl (w.heap.size + 1) Y 99 (0, 0) rfl HK.out _ Tryd.underlying99 rfl (by rw [info64, HYl.out]) ?_)
    | (refine wpList_store_whole rfl 99 (.tmp 2) (.tmp 17) rfl w.heap.size Y (zeros 64) 99 rfl rfl HR.out HYl.out (by rw [info64, HYl.out]) ?_))
  intro w5 H5 HG5
  have HB5 := hide (belowG HBB.out HG5.out (Nat.le_refl _) HBB.out.size)
  refine of_hid ?_
  go_wp2_with fail
  exact ret_whole Tryd.results62 w.heap.size Y 99 (0, 0) rfl H5.out _ Tryd.underlying99 rfl (by rw [info64, HYl.out]) rfl ⟨by rw [HY.out], HB5.out⟩
set_option maxHeartbeats 1600000 in
set_option maxRecDepth 100000 in
theorem key_long (a : Option Addr) (m c : Nat) (L : List Nat) (w : World) (hs : SrcB w a m L) (hc : m ≤ c) (hm : 64 < m) (hT : Tbl w) (hF : Fst w) (hbig : m ≤ 140737488355328) :
    Calls Tryd.prog 62 #[.slice a m c] w fun e w' => e = .returned (.agg (u8s (sha L ++ zeros 32))) ∧ Below w.heap.size w w' := by
  have HS := hide hs
  have HL := hide hs.1
  have HT := hide hT
  have HF := hide hF
  have H0 := hide (heap_old (heap_2a w (.cells (u8s (zeros 64)) 99) (.cells (u8s (zeros 64)) 99)) (.cells #[.slice a m c] 31))
  have H1 := hide (heap_old (heap_2b w (.cells (u8s (zeros 64)) 99) (.cells (u8s (zeros 64)) 99)) (.cells #[.slice a m c] 31))
  have H2 := hide (heap_3c w (.cells (u8s (zeros 64)) 99) (.cells (u8s (zeros 64)) 99) (.cells #[.slice a m c] 31))
  have HB := hide ((((Below.refl w.heap.size w).alloc (Nat.le_refl _) (.cells (u8s (zeros 64)) 99)).alloc (by simp) (.cells (u8s (zeros 64)) 99)).alloc (by simp; omega) (.cells #[.slice a m c] 31))
  clear hs hT hF
  have hd : decide (64 < m) = true := by simp; omega
  go_enter Tryd.func62, Tryd.ntmps62
  go_wp2_with fail
  rw [zlit64]
  generalize (((w.alloc (.cells (u8s (zeros 64)) 99)).alloc (.cells (u8s (zeros 64)) 99)).alloc (.cells #[.slice a m c] 31)) = w0 at *
  refine (of_c _ _ [⟨a, m, c, L⟩] w0 (parts_one (HS.out.below HB.out) hc H2.out) (tbl_keep HT.out HB.out (Nat.le_refl _)) (fst_keep HF.out HB.out (Nat.le_refl _)) (by rw [flat_one, HL.out]; exact hbig) (by simp)).mono ?_
  rintro e w1 ⟨rfl, hb1⟩
  rw [flat_one]
  obtain ⟨X, hX⟩ : ∃ X, X = sha L := ⟨_, rfl⟩
  have HXl : Hid (X.length = 32) := by show _ = _; rw [hX]; rfl
  have HX := hide hX
  rw [← hX]
  clear hX
  have HR1 := hide (below_blk hb1 (heap_lt H0.out) H0.out)
  have HK1 := hide (below_blk hb1 (heap_lt H1.out) H1.out)
  have HB1 := hide (keepB hb1 (Nat.le_refl _) HB.out)
  have hz1 := heap_lt HK1.out
  have Hz := hide (heap_last w1 (.cells (u8s (zeros 32)) 27))
  have HRz := hide (heap_old HR1.out (.cells (u8s (zeros 32)) 27))
  have HKz := hide (heap_old HK1.out (.cells (u8s (zeros 32)) 27))
  have HBz := hide (HB1.out.alloc HB1.out.size (.cells (u8s (zeros 32)) 27))
  clear hb1 HB H0 H1 H2 HR1 HK1 HB1
  go_wp2_with (refine wpList_store_whole rfl 27 (.tmp 4) (.tmp 10) rfl w1.heap.size X (zeros 32) 27 rfl rfl Hz.out HXl.out (by rw [infoS, HXl.out]) ?_)
  intro w2 HS2 HG2
  have HR2 := hide (keepG HG2.out (by omega) HRz.out)
  have HK2 := hide (keepG HG2.out (by omega) HKz.out)
  have HB2 := hide (belowG HBz.out HG2.out (by omega) HBz.out.size)
  clear Hz HRz HKz HBz HG2
  generalize w1.heap.size = SB at *
  refine of_hid ?_
  have hsl := fun v : World => sliceAll64 v (w.heap.size + 1)
  have hs2 := fun v : World => sliceAllS v SB
  as_aux_lemma =>
    go_wp2_with fail
    go_still_tail 2, (by kernel_rfl)
    refine wpList_copy_own rfl (.tmp 11) (.tmp 12) 31 31 rfl 5 Tryd.underlying31 info_u8s (w.heap.size + 1) 0 64 64 ⟨SB, 0, none⟩ 32 32 rfl rfl (u8s (zeros 64)) 99 HK2.out (b8 X) ?_ ?_ ?_ (b8_one _) ?_
    · rw [b8_length, HXl.out]; rfl
    · exact b8_get (w := w2.drew) HXl.out (fun i hi => by rw [Nat.zero_add]; exact row8 (w := w2.drew) HS2.out (by rw [HXl.out]; exact hi))
    · rw [b8_length, HXl.out, u8s_size, zeros_length]; omega
    have e : ((u8s (zeros 64)).toList.take 0 ++ (b8 X ++ (u8s (zeros 64)).toList.drop (0 + (b8 X).length))).toArray = u8s (X ++ zeros 32) := by
      have := splice_key X (by rw [HXl.out]; omega)
      rw [HXl.out] at this
      exact this
    rw [e]
    have H6 := hide (setRow_heap w2.drew (w.heap.size + 1) _ (u8s (X ++ zeros 32)) _ _ HK2.out)
    have HR6 : Hid ((w2.drew.setRow (w.heap.size + 1) (u8s (X ++ zeros 32))).heap[w.heap.size]? = some (.cells (u8s (zeros 64)) 99 (0, 0))) := (setRow_other w2.drew (w.heap.size + 1) _ _ (by omega)).trans HR2.out
    have HB6 := hide (below_setRow (g := w.heap.size + 1) HB2.out.drew (by omega) (u8s (X ++ zeros 32)))
    clear hsl hs2 HK2 HR2 HB2 HS2 e
    have HYl : Hid ((X ++ zeros 32).length = 64) := by show _ = _; rw [List.length_append, zeros_length, HXl.out]
    have HY : Hid (sha L ++ zeros 32 = X ++ zeros 32) := by show _ = _; rw [HX.out]
    show wpList _ _ _ _ (Act.put _ _ (goInt (b8 X).length)) (w2.drew.setRow (w.heap.size + 1) (u8s (X ++ zeros 32)))
    generalize (w2.drew.setRow (w.heap.size + 1) (u8s (X ++ zeros 32))) = w6 at *
    generalize X ++ zeros 32 = Y at *
    go_wp2_with (first
      | (refine wpList_load_whole rfl 99 (.tmp 3) rfl (w.heap.size + 1) Y 99 (0, 0) rfl H6.out _ Tryd.underlying99 rfl (by rw [info64, HYl.out]) ?_)
      | (refine wpList_store_whole rfl 99 (.tmp 2) (.tmp 17) rfl w.heap.size Y (zeros 64) 99 rfl rfl HR6.out HYl.out (by rw [info64, HYl.out]) ?_))
    intro w7 H7 HG7
    have HB7 := hide (belowG HB6.out HG7.out (Nat.le_refl _) HB6.out.size)
    refine of_hid ?_
    go_wp2_with fail
    exact ret_whole Tryd.results62 w.heap.size Y 99 (0, 0) rfl H7.out _ Tryd.underlying99 rfl (by rw [info64, HYl.out]) rfl ⟨by rw [HY.out], HB7.out⟩
theorem key_c (a : Option Addr) (m c : Nat) (L : List Nat) (w : World) (hs : SrcB w a m L) (hc : m ≤ c) (hT : Tbl w) (hF : Fst w) (hbig : m ≤ 140737488355328) :
    Calls Tryd.prog 62 #[.slice a m c] w fun e w' => e = .returned (.agg (u8s (keyL L))) ∧ Below w.heap.size w w' := by
  by_cases h : 64 < m
  · rw [show keyL L = sha L ++ zeros 32 by unfold keyL; rw [if_pos (by rw [hs.1]; exact h)]]
    exact key_long a m c L w hs hc h hT hF hbig
  · rw [show keyL L = L ++ zeros (64 - L.length) by unfold keyL; rw [if_neg (by rw [hs.1]; exact h)]]
    exact key_short a m c L w hs hc (by omega)
end Go.Proofs.YtpaijhmbfljfmaaDoor.Sy
