/- Reference 06's Bytes. -/
import Derived.Test.YtifepgigkmhdaaaDoorKx
import Derived.Test.YtifepgigkmhdaaaDoorKw
import Derived.Test.YtifepgigkmhdaaaDoorRn
import Derived.Test.YtifepgigkmhdaaaDoorRt
import Derived.Test.YtifepgigkmhdaaaDoorPe
namespace Go.Proofs.YtifepgigkmhdaaaDoor.Ky
set_option linter.unusedVariables false
set_option linter.unusedSimpArgs false
set_option maxRecDepth 100000
open Go.ChangeShapes Go.WideShapes Go.ChangeAt Go.RowKit
open Go.Proofs.YtifepgigkmhdaaaDoor.Wu Go.Proofs.YtifepgigkmhdaaaDoor.Sm Go.Proofs.YtifepgigkmhdaaaDoor.Sh Go.Proofs.YtifepgigkmhdaaaDoor.Ba Go.Proofs.YtifepgigkmhdaaaDoor.Bp Go.Proofs.YtifepgigkmhdaaaDoor.Bs Go.Proofs.YtifepgigkmhdaaaDoor.Cm Go.Proofs.YtifepgigkmhdaaaDoor.Ka Go.Proofs.YtifepgigkmhdaaaDoor.Kb Go.Proofs.YtifepgigkmhdaaaDoor.Kc Go.Proofs.YtifepgigkmhdaaaDoor.Kd Go.Proofs.YtifepgigkmhdaaaDoor.Ke Go.Proofs.YtifepgigkmhdaaaDoor.Rk Go.Proofs.YtifepgigkmhdaaaDoor.Rx Go.Proofs.YtifepgigkmhdaaaDoor.Rw Go.Proofs.YtifepgigkmhdaaaDoor.Rn Go.Proofs.YtifepgigkmhdaaaDoor.Rt Go.Proofs.YtifepgigkmhdaaaDoor.Kh Go.Proofs.YtifepgigkmhdaaaDoor.Kx Go.Proofs.YtifepgigkmhdaaaDoor.Kw
attribute [local go_sem] kUpon_value kUpon_skip kUpon_enter
theorem rb_bad (w : World) (sz cut len z : Int) (a : Option Addr) (m c : Nat) (bs : List Blk) (hb : IsBks .i64 w (.slice a m c) bs) (hm : bs.length = m) (hl : len ≤ 9223372036854775807) (hz : z ≠ 0) (hch : checkE sz cut len bs = z) :
    Calls Tryd.prog 24 #[sigV sz cut len (.slice a m c)] w fun e w' => e = .returned (.tuple #[.string (strN []), .int .i64 z]) ∧ Below w.heap.size w w' := by
  have HB := hide (below_new w (.cells #[.int .i64 sz, .int .i64 cut, .int .i64 len, .slice a m c] 56))
  have HC := hide (rc_any _ sz cut len a m c bs (hb.below HB.out) hm hl)
  rw [hch] at HC
  have e1 : (z != 0) = true := by simpa using hz
  clear hch hz hb hm hl
  unfold sigV at HC ⊢
  rw [← strN_nil]
  go_enter Tryd.func24, Tryd.ntmps24
  go_wp2_with fail
  generalize (w.alloc (.cells #[.int .i64 sz, .int .i64 cut, .int .i64 len, .slice a m c] 56)) = w1 at *
  refine HC.out.mono ?_
  rintro e w2 ⟨rfl, hb2⟩
  have HB2 := hide (keepB hb2 (Nat.le_refl _) HB.out)
  clear hb2 HB HC
  go_wp2
  go_ret2
  exact ⟨rfl, HB2.out⟩
theorem slice_to (L : List Nat) (n : Nat) (h : n ≤ L.length) (u : World) : Sem.run Tryd.prog (Instr.slice 9 (.string (strN L)) none (some (.int .i64 (n : Int))) none) u = .ok (.string (strN (L.take n))) u := by
  have h1 := run_slice_string_h (P := Tryd.prog) u 9 (strN L) Tryd.underlying9 .i64 (n : Int) (by omega) (by rw [strN_size]; omega)
  rw [h1, Int.toNat_natCast, strN_take]
set_option maxHeartbeats 3200000 in
theorem rb_ok (w : World) (s k l m c : Nat) (a : Option Addr) (bs : List Blk) (hb : IsBks .i64 w (.slice a m c) bs) (hm : bs.length = m) (hch : checkE s k l bs = 0) :
    Calls Tryd.prog 24 #[sigV s k l (.slice a m c)] w fun e w' => e = .returned (.tuple #[.string (strN (sigL s k l bs)), .int .i64 0]) ∧ Below w.heap.size w w' := by
  have hf : fitsE s k l = 0 := by
    unfold checkE at hch
    split at hch
    · exact hch
    · rename_i h; simpa using h
  have hz := fitsE_zero hf
  have hmn : (m : Int) = cntZ l s := by
    unfold checkE at hch
    rw [if_neg (by simpa using hf)] at hch
    split at hch
    · cases hch
    · rename_i h; rw [← hm]; omega
  have h4 : m ≤ 4096 := by omega
  have hs2 : s ≤ 4096 := by omega
  have hk : k ≤ 32 := by omega
  have hl : l ≤ 16777216 := by omega
  have HC := hide (rc_any (w.alloc (.cells #[.int .i64 (s : Int), .int .i64 (k : Int), .int .i64 (l : Int), .slice a m c] 56)) s k l a m c bs (hb.below (below_new _ _)) hm (by omega))
  rw [hch] at HC
  obtain ⟨a', c', g, off, hv, hmc, hcm, ha, hat⟩ := hb.at
  rw [hm] at hv hmc ha
  injection hv with h1 h2 h3
  subst h1 h3
  have Hoks : Hid (Oks bs) := hide hb.1
  have Hat := hide hat
  have HM := hide hm
  have HB := hide (below_new w (.cells #[.int .i64 (s : Int), .int .i64 (k : Int), .int .i64 (l : Int), .slice a m c] 56))
  have HS := hide (heap_last w (.cells #[.int .i64 (s : Int), .int .i64 (k : Int), .int .i64 (l : Int), .slice a m c] 56))
  have Hhl := hide (headL_len s k l (by omega) (by omega) (by omega))
  have HNs := hide (fun u : World => refNum_mid s u (by omega))
  have HNk := hide (fun u : World => refNum_mid k u (by omega))
  have HNl := hide (fun u : World => refNum_mid l u (by omega))
  have hn1 := numL_six s (by omega)
  have hn2 := numL_six k (by omega)
  have hn3 := numL_six l (by omega)
  have ad1 := add_strN (numL s) (numL k) (by omega) (by omega)
  have ad2 := add_strN (numL s ++ numL k) (numL l) (by rw [List.length_append]; omega) (by omega)
  have hR0 : (⟨#[]⟩ : ByteArray) = strN [] := rfl
  clear hat h2 hb hf hz hmn hch hm hn1 hn2 hn3 hR0
  unfold sigV at HC ⊢
  go_enter Tryd.func24, Tryd.ntmps24
  go_wp2_with fail
  generalize (w.alloc (.cells #[.int .i64 (s : Int), .int .i64 (k : Int), .int .i64 (l : Int), .slice a m c] 56)) = w1 at *
  refine HC.out.mono ?_
  rintro e w2 ⟨rfl, hb2⟩
  have HB2 := hide (keepB hb2 (Nat.le_refl _) HB.out)
  have HS2 := hide (below_blk hb2 (heap_lt HS.out) HS.out)
  clear hb2 HB HS HC
  go_wp2_with fail
  refine wp_region_keep (fun u => u.heap[w.heap.size]? = some (.cells #[.int .i64 (s : Int), .int .i64 (k : Int), .int .i64 (l : Int), .slice a m c] 56 (0, 0)) ∧ Below w.heap.size w u) (by kernel_rfl) (by kernel_rfl) ⟨HS2.out, HB2.out.drew⟩ ?_
  repeat (first
    | (refine keep_step (v := ?_) (by rfl) (fun u K hS hK => ?_) ?_
       rotate_left
       · obtain ⟨c0, c1, c2, c3⟩ := Sig4.cells (T := 56) hS.1
         (go_simp; first
           | (go_at_call 57; first
              | (with_reducible refine Calls.mono (HNs.out _) ?_)
              | (with_reducible refine Calls.mono (HNk.out _) ?_)
              | (with_reducible refine Calls.mono (HNl.out _) ?_)
              rintro e u2 ⟨rfl, hu⟩; exact hK _ ⟨below_blk hu (heap_lt hS.1) hS.1, keepB hu (Nat.le_refl _) hS.2⟩)
           | (with_reducible exact hK _ hS))
       simp only [Act.put, List.setIfInBounds_toArray, List.set_cons_zero, List.set_cons_succ]))
  refine keep_nil (fun w3 hS3 => ?_)
  have HS3 := hide hS3
  clear hS3 HS2 HB2 ad1 ad2 HNs HNk HNl
  have hH : headL s k l = numL s ++ numL k ++ numL l := rfl
  have HHd : Hid (strN (numL s ++ (numL k ++ numL l)) = strN (headL s k l ++ (bs.take 0).flatMap (blkL k))) := hide (by rw [List.take_zero]; simp [headL])
  clear hH
  go_wp2_with fail
  go_loopw [6, 5] (fun j v wr => ∃ i, j = .int .i64 ((i : Nat) : Int) ∧ i ≤ m ∧ v = .string (strN (headL s k l ++ (bs.take i).flatMap (blkL k))) ∧ wr.heap[w.heap.size]? = some (.cells #[.int .i64 (s : Int), .int .i64 (k : Int), .int .i64 (l : Int), .slice a m c] 56 (0, 0)) ∧ Below w.heap.size w wr) (fun j _ _ => m - (intOf j).toNat)
  case atStart => exact ⟨0, rfl, Nat.zero_le _, by rw [← HHd.out], HS3.out.1, HS3.out.2⟩
  case round =>
    clear HS3 HHd
    obtain ⟨i, rfl, hi, rfl, hS, hB⟩ := hrel
    have HS := hide hS
    have HB := hide hB
    clear hS hB
    obtain ⟨c0, c1, c2, c3⟩ := Sig4.cells (T := 56) HS.out
    by_cases hlt : i < m
    · obtain ⟨b, hb⟩ : ∃ b, bs[i]? = some b := ⟨bs[i]'(by rw [HM.out]; exact hlt), by rw [List.getElem?_eq_getElem]⟩
      obtain ⟨hbok, hr0⟩ := Hat.out i b hb
      have hcl : (headL s k l ++ (bs.take i).flatMap (blkL k)).length ≤ 200000 := by
        have h1 := Hhl.out.1
        have h2 := blks_len (k := k) (bs := bs.take i) (fun x hx => Hoks.out x (List.mem_of_mem_take hx)) hk
        rw [List.length_take] at h2
        rw [List.length_append]
        omega
      have Hnx : Hid ((headL s k l ++ (bs.take i).flatMap (blkL k)) ++ (numL b.w ++ b.s.take k) = headL s k l ++ (bs.take (i + 1)).flatMap (blkL k)) := hide (by
        rw [List.take_add_one, hb]
        simp [List.flatMap_append, blkL])
      obtain ⟨C, hC⟩ : ∃ C, C = headL s k l ++ (bs.take i).flatMap (blkL k) := ⟨_, rfl⟩
      rw [← hC] at Hnx hcl ⊢
      clear hC
      have HW : Hid (∀ u, Below w.heap.size w u → u.cell? ⟨g, off + i * 33, none⟩ = some (.int .i64 (b.w : Int))) := hide (fun u hu => by
        have := range_below hr0 hu 0 (.int .i64 (b.w : Int)) rfl
        rwa [Nat.add_zero] at this)
      have HR : Hid (∀ u, Below w.heap.size w u → u.rangeAt g (off + i * 33 + 1) (u8s b.s).toList) := hide (fun u hu j v hv => by
        have h1 := range_below hr0 hu (1 + j) v (by
          unfold blkC
          rw [Nat.add_comm, List.getElem?_cons_succ]
          exact hv)
        rw [Nat.add_assoc]
        exact h1)
      have ha1 := ha (by omega)
      subst ha1
      have hw32 := hbok.1
      have hsl : b.s.length = 32 := hbok.2.1
      have HNw := hide (fun u : World => refNum_mid b.w u (by omega))
      have HBy : Hid (∀ u : World, Calls Tryd.prog 58 #[.agg (u8s b.s)] u fun e w' => e = .returned (.string (strN b.s)) ∧ Below u.heap.size u w') := hide (fun u : World => Srm.refBytes_c b.s u hbok.2.1 hbok.2.2)
      have hn1 := numL_six b.w (by omega)
      have ad1 := add_strN (numL b.w) (b.s.take k) (by omega) (by rw [List.length_take]; omega)
      have ad2 := add_strN C (numL b.w ++ b.s.take k) (by omega) (by rw [List.length_append, List.length_take]; omega)
      have st := slice_to b.s k (by omega)
      have hsz : (u8s b.s).toList.length = 32 := by rw [Array.length_toList, u8s_size, hsl]
      have Hsz := hide hsz
      clear hr0 hb hcl hn1 hsl hsz
      have d1 : decide ((i : Int) < (m : Int)) = true := by simpa using hlt
      have i1 : (0 : Int) ≤ (i : Int) := by omega
      have i2 : (i : Int) < (m : Int) := by omega
      go_wp2_with fail
      refine wp_region_keep (fun u => u.heap[w.heap.size]? = some (.cells #[.int .i64 (s : Int), .int .i64 (k : Int), .int .i64 (l : Int), .slice (some ⟨g, off, none⟩) m c] 56 (0, 0)) ∧ Below w.heap.size w u) (by kernel_rfl) (by kernel_rfl) ⟨HS.out, HB.out.drew⟩ ?_
      repeat (first
        | (refine keep_step (v := .agg (u8s b.s)) (by rfl) (fun u K hS hK => kUpon_load_mid 79 (.tmp 42) rfl g (off + i * 33 + 1) _ rfl (run_loadVar_mid (P := Tryd.prog) u g (off + i * 33 + 1) 79 (u8s b.s).toList _ (HR.out u hS.2) Tryd.underlying79 rfl (by rw [Hsz.out]; kernel_rfl)) (hK _ hS)) ?_
           simp only [Act.put, List.setIfInBounds_toArray, List.set_cons_zero, List.set_cons_succ])
        | (refine keep_step (v := ?_) (by rfl) (fun u K hS hK => ?_) ?_
           rotate_left
           · obtain ⟨c0, c1, c2, c3⟩ := Sig4.cells (T := 56) hS.1
             have cw := HW.out u hS.2
             (go_simp; first
               | (go_at_call 57; (with_reducible refine Calls.mono (HNw.out _) ?_); rintro e u2 ⟨rfl, hu⟩; exact hK _ ⟨below_blk hu (heap_lt hS.1) hS.1, keepB hu (Nat.le_refl _) hS.2⟩)
               | (go_at_call 58; (with_reducible refine Calls.mono (HBy.out _) ?_); rintro e u2 ⟨rfl, hu⟩; exact hK _ ⟨below_blk hu (heap_lt hS.1) hS.1, keepB hu (Nat.le_refl _) hS.2⟩)
               | (with_reducible exact hK _ hS))
           simp only [Act.put, List.setIfInBounds_toArray, List.set_cons_zero, List.set_cons_succ]))
      refine keep_nil (fun w4 hS4 => ?_)
      have HS4 := hide hS4
      clear hS4 HS HB HW HR HNw HBy ad1 ad2 st c0 c1 c2 c3
      rw [Hnx.out]
      go_wp2
      go_roundw
      case rel => exact ⟨i + 1, by go_num, by omega, rfl, HS4.out.1, HS4.out.2⟩
      case measure => simp [intOf]; omega
    · obtain rfl : i = m := by omega
      have hall : bs.take i = bs := List.take_of_length_le (by rw [HM.out]; exact Nat.le_refl _)
      rw [hall]
      have d6 : decide ((i : Int) < (i : Int)) = false := by simp
      clear hi ha hall
      go_wp2
      go_ret2
      exact ⟨rfl, HB.out⟩
end Go.Proofs.YtifepgigkmhdaaaDoor.Ky
