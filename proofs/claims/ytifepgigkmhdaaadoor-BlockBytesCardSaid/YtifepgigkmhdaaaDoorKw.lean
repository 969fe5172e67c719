/- block.Signature's Bytes. -/
import Derived.Test.YtifepgigkmhdaaaDoorKv
import Derived.Test.YtifepgigkmhdaaaDoorPh
namespace Go.Proofs.YtifepgigkmhdaaaDoor.Kw
set_option linter.unusedVariables false
set_option linter.unusedSimpArgs false
set_option maxRecDepth 100000
open Go.ChangeShapes Go.WideShapes Go.ChangeAt Go.RowKit
open Go.Proofs.YtifepgigkmhdaaaDoor.Wu Go.Proofs.YtifepgigkmhdaaaDoor.Sm Go.Proofs.YtifepgigkmhdaaaDoor.Sh Go.Proofs.YtifepgigkmhdaaaDoor.Ba Go.Proofs.YtifepgigkmhdaaaDoor.Bp Go.Proofs.YtifepgigkmhdaaaDoor.Bq Go.Proofs.YtifepgigkmhdaaaDoor.Cm Go.Proofs.YtifepgigkmhdaaaDoor.Ka Go.Proofs.YtifepgigkmhdaaaDoor.Kb Go.Proofs.YtifepgigkmhdaaaDoor.Kc Go.Proofs.YtifepgigkmhdaaaDoor.Kd Go.Proofs.YtifepgigkmhdaaaDoor.Ke Go.Proofs.YtifepgigkmhdaaaDoor.Rk Go.Proofs.YtifepgigkmhdaaaDoor.Rw Go.Proofs.YtifepgigkmhdaaaDoor.Rb1 Go.Proofs.YtifepgigkmhdaaaDoor.Kg Go.Proofs.YtifepgigkmhdaaaDoor.Kh Go.Proofs.YtifepgigkmhdaaaDoor.Ki Go.Proofs.YtifepgigkmhdaaaDoor.Kj Go.Proofs.YtifepgigkmhdaaaDoor.Kv
/-- A block's bytes. -/
def blkL (k : Nat) (b : Blk) : List Nat := numL b.w ++ b.s.take k
def headL (s k l : Nat) : List Nat := numL s ++ numL k ++ numL l
def sigL (s k l : Nat) (bs : List Blk) : List Nat := headL s k l ++ bs.flatMap (blkL k)
theorem blkL_len {k : Nat} {b : Blk} (h : b.ok) (hk : k ≤ 32) : (blkL k b).length = (numL b.w).length + k := by
  unfold blkL
  rw [List.length_append, List.length_take, h.2.1, Nat.min_eq_left hk]
theorem blks_len {k : Nat} : ∀ {bs : List Blk}, Oks bs → k ≤ 32 → (bs.flatMap (blkL k)).length ≤ bs.length * 38
  | [], _, _ => by simp
  | b :: bs, h, hk => by
    have h1 := blks_len (bs := bs) (fun x hx => h x (List.mem_cons_of_mem _ hx)) hk
    have h2 := blkL_len (h b List.mem_cons_self) hk
    have h3 := numL_six b.w (by have := (h b List.mem_cons_self).1; omega)
    rw [List.flatMap_cons, List.length_append, List.length_cons]
    omega
theorem headL_len (s k l : Nat) (hs : s ≤ 1099511627776) (hk : k ≤ 1099511627776) (hl : l ≤ 1099511627776) : (headL s k l).length ≤ 18 ∧ 0 < (headL s k l).length := by
  have h1 := numL_six s hs
  have h2 := numL_six k hk
  have h3 := numL_six l hl
  have h4 := numL_pos s
  unfold headL
  rw [List.length_append, List.length_append]
  omega
theorem bytes_bad (w : World) (sz cut len : Int) (v : Value) (bs : List Blk) (hv1 : v.oneCell' = true) (hl : len ≤ 9223372036854775807) (z : Int) (hz : z ≠ 0)
    (HCk : ∀ u, Below w.heap.size w u → Calls Tryd.prog 26 #[sigV sz cut len v] u fun e w' => e = .returned (.int .i64 z) ∧ Below u.heap.size u w') :
    Calls Tryd.prog 23 #[sigV sz cut len v] w fun e w' => e = .returned (.tuple #[.slice none 0 0, .int .i64 z]) ∧ Below w.heap.size w w' := by
  have HB := hide (below_new w (.cells #[.int .i64 sz, .int .i64 cut, .int .i64 len, v] 49))
  have HC := hide (HCk _ HB.out)
  have hb : (z != 0) = true := by simpa using hz
  clear hz HCk
  unfold sigV at HC ⊢
  go_enter Tryd.func23, Tryd.ntmps23
  go_wp2_with fail
  generalize (w.alloc (.cells #[.int .i64 sz, .int .i64 cut, .int .i64 len, v] 49)) = w1 at *
  refine HC.out.mono ?_
  rintro e w2 ⟨rfl, hb2⟩
  have HB2 := hide (keepB hb2 (Nat.le_refl _) HB.out)
  clear hb2 HB HC
  go_wp2
  go_ret2
  exact ⟨rfl, HB2.out⟩
set_option maxHeartbeats 3200000 in
theorem bytes_ok (w : World) (s k l m c : Nat) (a : Option Addr) (bs : List Blk) (hb : IsBks .u32 w (.slice a m c) bs) (hm : bs.length = m) (hch : checkE s k l bs = 0) :
    Calls Tryd.prog 23 #[sigV s k l (.slice a m c)] w fun e w' => ∃ v, e = .returned (.tuple #[v, .int .i64 0]) ∧ Buf w' v (w.heap.size + 1) (sigL s k l bs) ∧ Below w.heap.size w w' := by
  have hf : fitsE s k l = 0 := by
    unfold checkE at hch
    split at hch
    · exact hch
    · rename_i h; simpa using h
  have hz := fitsE_zero hf
  have hmn : (m : Int) = cntZ l s := by
    unfold checkE at hch
    rw [if_neg (by simpa using hf)] at hch
    split at hch
    · cases hch
    · rename_i h; rw [← hm]; omega
  have h4 : m ≤ 4096 := by omega
  have hs2 : s ≤ 4096 := by omega
  have hk : k ≤ 32 := by omega
  have hl : l ≤ 16777216 := by omega
  have HC := hide (check_c (w.alloc (.cells #[.int .i64 (s : Int), .int .i64 (k : Int), .int .i64 (l : Int), .slice a m c] 49)) s k l (.slice a m c) bs (hb.below (below_new _ _)) (by omega) (by omega))
  rw [hch] at HC
  obtain ⟨a', c', g, off, hv, hmc, hcm, ha, hat⟩ := hb.at
  rw [hm] at hv hmc ha
  injection hv with h1 h2 h3
  subst h1 h3
  have hoks : Oks bs := hb.1
  have Hoks := hide hoks
  have Hat := hide hat
  have HM := hide hm
  have HB := hide (below_new w (.cells #[.int .i64 (s : Int), .int .i64 (k : Int), .int .i64 (l : Int), .slice a m c] 49))
  have HS := hide (heap_last w (.cells #[.int .i64 (s : Int), .int .i64 (k : Int), .int .i64 (l : Int), .slice a m c] 49))
  have hsz0 : (w.alloc (.cells #[.int .i64 (s : Int), .int .i64 (k : Int), .int .i64 (l : Int), .slice a m c] 49)).heap.size = w.heap.size + 1 := by simp
  clear hat h2 hb hf hz hmn hch hm hoks
  unfold sigV at HC ⊢
  go_enter Tryd.func23, Tryd.ntmps23
  go_wp2_with fail
  generalize (w.alloc (.cells #[.int .i64 (s : Int), .int .i64 (k : Int), .int .i64 (l : Int), .slice a m c] 49)) = w1 at *
  refine HC.out.mono ?_
  rintro e w2 ⟨rfl, hb2⟩
  have HB2 := hide (keepB hb2 (Nat.le_refl _) HB.out)
  have HS2 := hide (below_blk hb2 (heap_lt HS.out) HS.out)
  have hz2 : w.heap.size + 1 ≤ w2.heap.size := by have := hb2.size; omega
  clear hb2 HB HS HC hsz0
  obtain ⟨c0, c1, c2, c3⟩ := Sig4.cells (T := 49) HS2.out
  go_wp2_with fail
  refine (num_k (.slice none 0 0) (w.heap.size + 1) [] s w2 (.inl ⟨rfl, rfl⟩) hz2 (by omega) (by simp)).mono ?_
  rintro e w3 ⟨v3, rfl, hb3, ho3⟩
  rw [List.nil_append] at hb3
  have hsig : ∀ {u u' : World} {v0 v1 : Value}, Ow u v0 (w.heap.size + 1) u' v1 → Below w.heap.size w u ∧ u.heap[w.heap.size]? = some (.cells #[.int .i64 (s : Int), .int .i64 (k : Int), .int .i64 (l : Int), .slice a m c] 49 (0, 0)) → Below w.heap.size w u' ∧ u'.heap[w.heap.size]? = some (.cells #[.int .i64 (s : Int), .int .i64 (k : Int), .int .i64 (l : Int), .slice a m c] 49 (0, 0)) := fun ho hB => ⟨hB.1.trans (ho.below.mono (by omega)), below_blk ho.below (by omega) hB.2⟩
  have H3 := hide (hsig ho3 ⟨HB2.out, HS2.out⟩)
  have hz3 : w.heap.size + 1 ≤ w3.heap.size := by have := ho3.size; omega
  have hn1 := numL_six s (by omega)
  have hn2 := numL_six k (by omega)
  have hn3 := numL_six l (by omega)
  have HBf3 := hide hb3
  clear ho3 hb3 HB2 HS2 c0 c1 c2 c3
  obtain ⟨c0, c1, c2, c3⟩ := Sig4.cells (T := 49) H3.out.2
  go_wp2_with fail
  refine (num_k v3 (w.heap.size + 1) (numL s) k w3 HBf3.out hz3 (by omega) (by omega)).mono ?_
  rintro e w4 ⟨v4, rfl, hb4, ho4⟩
  have H4 := hide (hsig ho4 H3.out)
  have hz4 : w.heap.size + 1 ≤ w4.heap.size := by have := ho4.size; omega
  have HBf4 := hide hb4
  clear ho4 hb4 H3 HBf3 c0 c1 c2 c3
  obtain ⟨c0, c1, c2, c3⟩ := Sig4.cells (T := 49) H4.out.2
  go_wp2_with fail
  refine (num_k v4 (w.heap.size + 1) (numL s ++ numL k) l w4 HBf4.out hz4 (by omega) (by rw [List.length_append]; omega)).mono ?_
  rintro e w5 ⟨v5, rfl, hb5, ho5⟩
  have H5 := hide (hsig ho5 H4.out)
  have hz5 : w.heap.size + 1 ≤ w5.heap.size := by have := ho5.size; omega
  have HBf5 : Hid (Buf w5 v5 (w.heap.size + 1) (headL s k l ++ (bs.take 0).flatMap (blkL k))) := hide (by rw [List.take_zero]; simpa [headL] using hb5)
  have Hhl := hide (headL_len s k l (by omega) (by omega) (by omega))
  clear ho5 hb5 H4 HBf4 c0 c1 c2 c3 hn1 hn2 hn3
  obtain ⟨c0, c1, c2, c3⟩ := Sig4.cells (T := 49) H5.out.2
  go_wp2_with fail
  clear c0 c1 c2 c3
  go_loopw [27, 5] (fun j v wr => ∃ i, j = .int .i64 ((i : Nat) : Int) ∧ i ≤ m ∧ Buf wr v (w.heap.size + 1) (headL s k l ++ (bs.take i).flatMap (blkL k)) ∧ (Below w.heap.size w wr ∧ wr.heap[w.heap.size]? = some (.cells #[.int .i64 (s : Int), .int .i64 (k : Int), .int .i64 (l : Int), .slice a m c] 49 (0, 0))) ∧ w.heap.size + 1 ≤ wr.heap.size) (fun j _ _ => m - (intOf j).toNat)
  case atStart => exact ⟨0, rfl, Nat.zero_le _, HBf5.out, H5.out, hz5⟩
  case round =>
    clear H5 HBf5
    obtain ⟨i, rfl, hi, hbf, hsg, hzr⟩ := hrel
    have HBf := hide hbf
    have HSg := hide hsg
    clear hbf hsg
    by_cases hlt : i < m
    · obtain ⟨b, hb⟩ : ∃ b, bs[i]? = some b := ⟨bs[i]'(by rw [HM.out]; exact hlt), by rw [List.getElem?_eq_getElem]⟩
      obtain ⟨hbok, hr0⟩ := Hat.out i b hb
      have HR := hide (range_below hr0 HSg.out.1)
      have hcl : (headL s k l ++ (bs.take i).flatMap (blkL k)).length ≤ 200000 := by
        have h1 := Hhl.out.1
        have h2 := blks_len (k := k) (bs := bs.take i) (fun x hx => Hoks.out x (List.mem_of_mem_take hx)) hk
        rw [List.length_take] at h2
        rw [List.length_append]
        omega
      have hcp : 0 < (headL s k l ++ (bs.take i).flatMap (blkL k)).length := by
        have h1 := Hhl.out.2
        rw [List.length_append]
        omega
      have Hnx : Hid (headL s k l ++ (bs.take (i + 1)).flatMap (blkL k) = (headL s k l ++ (bs.take i).flatMap (blkL k)) ++ (numL b.w ++ b.s.take k)) := hide (by
        rw [List.take_add_one, hb]
        simp [List.flatMap_append, blkL])
      obtain ⟨C, hC⟩ : ∃ C, C = headL s k l ++ (bs.take i).flatMap (blkL k) := ⟨_, rfl⟩
      rw [← hC] at HBf hcl hcp Hnx
      obtain rfl := ha (by omega)
      clear hr0 hb ha hC
      have d1 : decide ((i : Int) < (m : Int)) = true := by simpa using hlt
      have i1 : (0 : Int) ≤ (i : Int) := by omega
      have i2 : (i : Int) < (m : Int) := by omega
      have hsz : (blkC .u32 b).length = 33 := blkC_length hbok
      go_wp2_with (first
        | (refine wpList_load_part rfl 81 (.tmp 29) rfl g (off + i * 33) (blkC .u32 b) rfl HR.out _ Tryd.underlying81 rfl (by rw [hsz]; kernel_rfl) ?_)
        | (refine wpList_store_all rfl 81 (.tmp 7) (.tmp 30) rfl wr.heap.size (blkC .u32 b).toArray _ 81 rfl rfl (heap_last _ _) (by rw [List.size_toArray, hsz]; rfl) (by rw [List.size_toArray, hsz]; kernel_rfl) (all_oneCell_toArray (blkC_one _ _)) ?_))
      intro w6 H6 HG6
      refine of_hid ?_
      have hb6 : Below wr.heap.size wr w6 := belowG (below_new wr (.cells (blkC .u32 ⟨0, zeros 32⟩).toArray 81)) HG6.out (Nat.le_refl _) (below_new wr (.cells (blkC .u32 ⟨0, zeros 32⟩).toArray 81)).size
      have HBf6 := hide (HBf.out.up hb6)
      have HSg6 := hide (⟨keepB hb6 (Nat.le_refl _) HSg.out.1, below_blk hb6 (heap_lt HSg.out.2) HSg.out.2⟩ : _ ∧ _)
      have Hown : Hid (u5.ownBlock ≠ some wr.heap.size) := hide (fun e => by have := (buf_own HBf.out _ e).2; omega)
      have hz6 : w.heap.size + 1 ≤ w6.heap.size := Nat.le_trans hzr hb6.size
      have hB6 := heap_lt H6.out
      clear hb6 HG6 HBf HSg HR
      generalize wr.heap.size = B at *
      have cw : w6.cell? ⟨B, 0, none⟩ = some (.int .u32 (b.w : Int)) := blk_cell H6.out rfl
      have hw32 := hbok.1
      go_wp2_with fail
      refine (num_k u5 (w.heap.size + 1) C b.w w6 HBf6.out hz6 (by omega) (by omega)).mono ?_
      rintro e w7 ⟨v7, rfl, hb7, ho7⟩
      have H7 := hide ((ho7.keep B hB6 Hown.out).trans H6.out)
      have HSg7 := hide (hsig ho7 HSg6.out)
      have hz7 : w.heap.size + 1 ≤ w7.heap.size := by have := ho7.size; omega
      have HBf7 := hide hb7
      have Hlow7 := hide (fun q (hq : v7.ownBlock = some q) => (buf_own hb7 q hq).1)
      have hn6 := numL_six b.w (by omega)
      clear hb7 ho7 H6 HSg6 HBf6 Hown cw hB6
      have Hsrc : Hid (SrcB w7 (some ⟨B, 1, none⟩) k (b.s.take k)) := hide ⟨by rw [List.length_take, hbok.2.1]; omega, fun x hx => hbok.2.2 x (List.mem_of_mem_take hx), B, 1, fun _ => rfl, fun j hj => blk_cell H7.out (by
        have hj2 : j < b.s.length := by rw [hbok.2.1]; omega
        simp only [List.getElem?_toArray, blkC, Nat.add_comm 1 j, List.getElem?_cons_succ]
        unfold b8
        rw [List.getElem?_map, List.getElem?_eq_getElem hj2]
        simp [List.getD, List.getElem?_take_of_lt hj, hj2])⟩
      obtain ⟨c0, c1, c2, c3⟩ := Sig4.cells (T := 49) HSg7.out.2
      have hsl := fun u : World => sliceHAt u B 1 k hk
      go_wp2_with (refine Go.Proofs.YtifepgigkmhdaaaDoor.Kv.wpList_append_own rfl (.tmp 36) (.tmp 40) rfl v7 (w.heap.size + 1) (C ++ numL b.w) (some ⟨B, 1, none⟩) k 32 (b.s.take k) rfl rfl HBf7.out hz7 Hsrc.out (fun h => by cases h) (by rw [List.length_append]; omega) (.inr (by rw [List.length_append]; omega)) ?_)
      intro v8 w8 HBf8 HG8 HO8
      refine of_hid ?_
      rw [← Hnx.out] at HBf8
      have HSg8 := hide (⟨HSg7.out.1.grown HG8.out HSg7.out.1.size (fun q hq => by have := Hlow7.out q hq; omega), (HG8.out.block _ (heap_lt HSg7.out.2) (fun e => by have := Hlow7.out _ e.symm; omega)).trans HSg7.out.2⟩ : _ ∧ _)
      have hz8 : w.heap.size + 1 ≤ w8.heap.size := Nat.le_trans hz7 HG8.out.size
      clear HG8 HO8 HSg7 HBf7 Hsrc H7 c0 c1 c2 c3 hsl
      go_wp2
      go_roundw
      case rel => exact ⟨i + 1, by go_num, by omega, HBf8.out, HSg8.out, hz8⟩
      case measure => simp [intOf]; omega
    · obtain rfl : i = m := by omega
      have hall : bs.take i = bs := List.take_of_length_le (by rw [HM.out]; exact Nat.le_refl _)
      rw [hall] at HBf
      have d6 : decide ((i : Int) < (i : Int)) = false := by simp
      clear hi ha hall
      go_wp2
      go_ret2
      exact ⟨_, rfl, HBf.out, HSg.out.1⟩
end Go.Proofs.YtifepgigkmhdaaaDoor.Kw
