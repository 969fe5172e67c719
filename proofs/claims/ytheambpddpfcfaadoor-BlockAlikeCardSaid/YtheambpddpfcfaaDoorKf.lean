/- block.Make. -/
import Derived.Test.YtheambpddpfcfaaDoorKe
import Derived.Test.YtheambpddpfcfaaDoorRh
import Derived.Test.YtheambpddpfcfaaDoorRw
import Derived.Test.YtheambpddpfcfaaDoorKg
namespace Go.Proofs.YtheambpddpfcfaaDoor.Kf
set_option linter.unusedVariables false
set_option linter.unusedSimpArgs false
set_option maxRecDepth 100000
open Go.ChangeShapes Go.WideShapes Go.ChangeAt Go.RowKit
open Go.Proofs.YtheambpddpfcfaaDoor.Wu Go.Proofs.YtheambpddpfcfaaDoor.Sm Go.Proofs.YtheambpddpfcfaaDoor.Sh Go.Proofs.YtheambpddpfcfaaDoor.Ba Go.Proofs.YtheambpddpfcfaaDoor.Bp Go.Proofs.YtheambpddpfcfaaDoor.Ka Go.Proofs.YtheambpddpfcfaaDoor.Kb Go.Proofs.YtheambpddpfcfaaDoor.Kc Go.Proofs.YtheambpddpfcfaaDoor.Kd Go.Proofs.YtheambpddpfcfaaDoor.Ke Go.Proofs.YtheambpddpfcfaaDoor.Rk Go.Proofs.YtheambpddpfcfaaDoor.Rh Go.Proofs.YtheambpddpfcfaaDoor.Rw Go.Proofs.YtheambpddpfcfaaDoor.Rb1 Go.Proofs.YtheambpddpfcfaaDoor.Kg
open Go.Proofs.YtheambpddpfcfaaDoor.Sn (Fst fst_keep)
open Go.Proofs.YtheambpddpfcfaaDoor.Sxa (Tbl tbl_keep)
open Go.Proofs.YtheambpddpfcfaaDoor.Su (cutL Cnt)
attribute [local go_sem] kUpon_value kUpon_skip kUpon_enter
theorem load_sig {T : TypeId} {w : World} {S : Nat} {sz cut len : Int} {v : Value} (h : Sig4 T w S sz cut len v) : Sem.run Tryd.prog (loadVar 26 ⟨S, 0, none⟩) w = .ok (sigV sz cut len v) w :=
  load_all 26 h _ Tryd.underlying26 rfl (by kernel_rfl)
theorem sig_cells {w : World} {S : Nat} {x0 x1 x2 x3 : Value} {T : TypeId} {f : Nat × Nat} (h : w.heap[S]? = some (.cells #[x0, x1, x2, x3] T f)) : w.cell? ⟨S, 0, none⟩ = some x0 ∧ w.cell? ⟨S, 1, none⟩ = some x1 ∧ w.cell? ⟨S, 2, none⟩ = some x2 ∧ w.cell? ⟨S, 3, none⟩ = some x3 :=
  ⟨blk_cell h rfl, blk_cell h rfl, blk_cell h rfl, blk_cell h rfl⟩
theorem sig_free {w : World} {S : Nat} {c : Array Value} {T : TypeId} (h : w.heap[S]? = some (.cells c T (0, 0))) : w.frozen? ⟨S, 0, none⟩ = false ∧ w.frozen? ⟨S, 1, none⟩ = false ∧ w.frozen? ⟨S, 2, none⟩ = false ∧ w.frozen? ⟨S, 3, none⟩ = false :=
  ⟨blk_free h, blk_free h, blk_free h, blk_free h⟩
theorem sig_set {w : World} {S : Nat} {x0 x1 x2 x3 : Value} {T : TypeId} {f : Nat × Nat} (h : w.heap[S]? = some (.cells #[x0, x1, x2, x3] T f)) (y0 y1 y2 y3 : Value) :
    ((((w.setCell ⟨S, 0, none⟩ y0).setCell ⟨S, 1, none⟩ y1).setCell ⟨S, 2, none⟩ y2).setCell ⟨S, 3, none⟩ y3).heap[S]? = some (.cells #[y0, y1, y2, y3] T f) := by
  have := blk_set (i := 3) (blk_set (i := 2) (blk_set (i := 1) (blk_set (i := 0) h y0) y1) y2) y3
  rw [this]
  simp
theorem below_set4 {w u : World} {N B : Nat} (h : Below N u w) (hB : N ≤ B) (a b c d : Value) :
    Below N u ((((w.setCell ⟨B, 0, none⟩ a).setCell ⟨B, 1, none⟩ b).setCell ⟨B, 2, none⟩ c).setCell ⟨B, 3, none⟩ d) := (((h.setCell hB _).setCell hB _).setCell hB _).setCell hB _
set_option maxHeartbeats 1600000 in
theorem make_bad (a : Option Addr) (m c : Nat) (sz cut : Int) (w : World) (hm : m ≤ 9223372036854775807) (hf : fitsE sz cut m ≠ 0) :
    Calls Tryd.prog 16 #[.slice a m c, .int .i64 sz, .int .i64 cut] w fun e w' => e = .returned (.tuple #[sigV 0 0 0 (.slice none 0 0), .int .i64 (fitsE sz cut m)]) ∧ Below w.heap.size w w' := by
  have HC := hide (fun u : World => fits_c u sz cut (m : Int) (.slice none 0 0) rfl (by omega))
  have hb : (fitsE sz cut m != 0) = true := by simpa using hf
  generalize fitsE sz cut m = z at *
  clear hf hm
  unfold sigV at HC
  have HR := hide (heap_2a w (.cells #[.int .i64 0, .int .i64 0, .int .i64 0, .slice none 0 0] 26) (.cells #[.int .i64 sz, .int .i64 cut, .int .i64 (m : Int), .slice none 0 0] 26))
  have HB := hide (((Below.refl w.heap.size w).alloc (Nat.le_refl _) (.cells #[.int .i64 0, .int .i64 0, .int .i64 0, .slice none 0 0] 26)).alloc (by simp) (.cells #[.int .i64 sz, .int .i64 cut, .int .i64 (m : Int), .slice none 0 0] 26))
  go_enter Tryd.func16, Tryd.ntmps16
  go_wp2_with fail
  generalize ((w.alloc (.cells #[.int .i64 0, .int .i64 0, .int .i64 0, .slice none 0 0] 26)).alloc (.cells #[.int .i64 sz, .int .i64 cut, .int .i64 (m : Int), .slice none 0 0] 26)) = w1 at *
  refine (HC.out _).mono ?_
  rintro e w2 ⟨rfl, hb2⟩
  have HR2 := hide (below_blk hb2 (heap_lt HR.out) HR.out)
  have HB2 := hide (keepB hb2 (Nat.le_refl _) HB.out)
  clear hb2 HR HB HC
  obtain ⟨r0, r1, r2, r3⟩ := sig_cells HR2.out
  obtain ⟨f0, f1, f2, f3⟩ := sig_free HR2.out
  go_wp2
  have e := sig_set HR2.out (.int .i64 0) (.int .i64 0) (.int .i64 0) (.slice none 0 0)
  refine bodyPost_ret (v := .tuple #[sigV 0 0 0 (.slice none 0 0), .int .i64 z]) ?_ rfl ⟨rfl, below_set4 HB2.out (Nat.le_refl _) _ _ _ _⟩
  have hl := load_sig e
  simp [results, Tryd.results16, asAddr, hl]
theorem cnt_lt {m s i : Int} (hs : 1 ≤ s) (hm : 0 ≤ m) (hi0 : 0 ≤ i) (hi : i < cntZ m s) : i * s < m := by
  unfold cntZ at hi
  rw [if_neg (by omega)] at hi
  have h1 := Int.mul_ediv_add_emod m s
  have h2 := Int.emod_nonneg m (show s ≠ 0 by omega)
  generalize m / s = q at *
  generalize m % s = r at *
  by_cases h : i < q
  · have h3 : (i + 1) * s ≤ q * s := Int.mul_le_mul_of_nonneg_right (by omega) (by omega)
    rw [Int.add_mul, Int.one_mul] at h3
    rw [Int.mul_comm s q] at h1
    omega
  · split at hi
    · have : i = q := by omega
      subst this
      rw [Int.mul_comm s i] at h1
      omega
    · omega
theorem slice_lh (u : World) (a : Option Addr) (m c p n : Nat) (x y : Int) (hx : x = (p : Int)) (hy : y = (p : Int) + (n : Int)) (hn : 0 < n) (h : p + n ≤ m) (hc : m ≤ c) :
    Sem.run Tryd.prog (Instr.slice 22 (.slice a m c) (some (.int .i64 x)) (some (.int .i64 y)) none) u = .ok (.slice (a.map (·.add p)) n (c - p)) u := by
  subst hx hy
  rw [run_slice_lh u 22 a m c und_bs .i64 .i64 _ _ (by omega) (by omega) (by omega), elem_bs, size_u8]
  simp only [Result.andThen, sliced, Nat.mul_one]
  rw [if_neg (by omega), show ((p : Int)).toNat = p by omega, show ((p : Int) + (n : Int)).toNat = p + n by omega, show p + n - p = n by omega]
theorem src_piece {w : World} {a : Option Addr} {m : Nat} {D : List Nat} (h : SrcB w a m D) (p s n : Nat) (hn : n = min s (m - p)) (hp : p ≤ m) : SrcB w (a.map (·.add p)) n ((D.drop p).take s) := by
  obtain ⟨hl, h8, b, off, ha, hc⟩ := h
  refine ⟨by rw [List.length_take, List.length_drop]; omega, all8_take (all8_drop h8 _) _, b, off + p, fun h0 => ?_, fun j hj => ?_⟩
  · rw [ha (by omega)]; simp [Addr.add_mid]
  · rw [Nat.add_assoc, hc (p + j) (by omega)]
    simp only [List.getD, List.getElem?_take_of_lt (show j < s by omega), List.getElem?_drop]
theorem _root_.Go.Proofs.YtheambpddpfcfaaDoor.Ke.MB.drew {q : IntKind} {e T : TypeId} {w0 : World} {R S N : Nat} {rc : Obj} {sz cut len : Int} {v vo : Value} {bs : List Blk} {u : World} (H : MB q e T w0 R S N rc sz cut len v vo bs u) : MB q e T w0 R S N rc sz cut len v vo bs u.drew :=
  ⟨H.below.drew, H.hS, H.SN, H.RN, H.RS, H.Nu, H.sig, H.res, H.own⟩
theorem own_some {q : IntKind} {e : TypeId} {w : World} {N : Nat} {v : Value} {bs : List Blk} (h : OwnBks q e w N v bs) (hb : bs ≠ []) : ∃ g n cap, v = .slice (some ⟨g, 0, none⟩) n cap := by
  rcases h.2.2 with ⟨_, hn⟩ | ⟨g, cap, cur, rfl, _⟩
  · exact absurd (List.length_eq_zero_iff.1 hn) hb
  · exact ⟨_, _, _, rfl⟩
set_option maxHeartbeats 3200000 in
theorem make_ok (a : Option Addr) (m c : Nat) (D : List Nat) (s k n : Nat) (w : World) (hs : SrcB w a m D) (hc : m ≤ c) (hcm : c ≤ 9223372036854775807) (hf : fitsE (s : Int) (k : Int) m = 0) (hn : cntZ m s = (n : Int)) (hT : Tbl w) (hF : Fst w) :
    Calls Tryd.prog 16 #[.slice a m c, .int .i64 (s : Int), .int .i64 (k : Int)] w fun e w' => ∃ v, e = .returned (.tuple #[sigV s k m v, .int .i64 0]) ∧ OwnBks .u32 63 w' (w.heap.size + 2) v (mkB D s k n) ∧ Below w.heap.size w w' := by
  have hz := fitsE_zero hf
  have hm : m ≤ 16777216 := by omega
  have hs1 : 1 ≤ s := by omega
  have hs2 : s ≤ 4096 := by omega
  have hk : k ≤ 32 := by omega
  have hn4 : n ≤ 4096 := by omega
  have HC := hide (fits_c ((w.alloc (.cells #[.int .i64 0, .int .i64 0, .int .i64 0, .slice none 0 0] 26)).alloc (.cells #[.int .i64 (s : Int), .int .i64 (k : Int), .int .i64 (m : Int), .slice none 0 0] 26)) s k (m : Int) (.slice none 0 0) rfl (by omega))
  rw [hf] at HC
  have HN := hide (fun u : World => count_c u (m : Int) (s : Int) (by omega))
  rw [hn] at HN
  have HS := hide hs
  have HT := hide hT
  have HF := hide hF
  have Hn := hide hn
  have hlD := hs.1
  unfold sigV at HC
  clear hf hz hs hT hF hn
  have H0 : Hid (MB .u32 63 26 w w.heap.size (w.heap.size + 1) (w.heap.size + 2) (.cells #[.int .i64 0, .int .i64 0, .int .i64 0, .slice none 0 0] 26) s k m (.slice none 0 0) (.slice none 0 0) [] ((w.alloc (.cells #[.int .i64 0, .int .i64 0, .int .i64 0, .slice none 0 0] 26)).alloc (.cells #[.int .i64 (s : Int), .int .i64 (k : Int), .int .i64 (m : Int), .slice none 0 0] 26))) :=
    hide ⟨((Below.refl w.heap.size w).alloc (Nat.le_refl _) _).alloc (by simp) _, by omega, by omega, by omega, by omega, by simp, heap_2b w _ _, heap_2a w _ _, OwnBks.nil _ _ _ _⟩
  go_enter Tryd.func16, Tryd.ntmps16
  go_wp2_with fail
  generalize ((w.alloc (.cells #[.int .i64 0, .int .i64 0, .int .i64 0, .slice none 0 0] 26)).alloc (.cells #[.int .i64 (s : Int), .int .i64 (k : Int), .int .i64 (m : Int), .slice none 0 0] 26)) = w1 at *
  refine HC.out.mono ?_
  rintro e w2 ⟨rfl, hb2⟩
  have H2 := hide (H0.out.up hb2)
  clear hb2 HC H0
  go_wp2_with fail
  refine (HN.out _).mono ?_
  rintro e w2 ⟨rfl, rfl⟩
  clear HN
  go_wp2_with fail
  go_loopw [29] (fun j wr => ∃ i v, j = .int .i64 ((i : Nat) : Int) ∧ i ≤ n ∧ MB .u32 63 26 w w.heap.size (w.heap.size + 1) (w.heap.size + 2) (.cells #[.int .i64 0, .int .i64 0, .int .i64 0, .slice none 0 0] 26) s k m v v (mkB D s k i) wr) (fun j _ => n - (intOf j).toNat)
  case atStart => exact ⟨0, _, rfl, Nat.zero_le _, H2.out⟩
  case round =>
    clear H2
    obtain ⟨i, v, rfl, hi, hM⟩ := hrel
    have HM := hide hM
    clear hM
    by_cases hlt : i < n
    · obtain ⟨r0, r1, r2, r3⟩ := HM.out.sig.cells
      have him : (i : Int) * (s : Int) < (m : Int) := cnt_lt (by omega) (by omega) (by omega) (by rw [Hn.out]; omega)
      obtain ⟨p, hp⟩ : ∃ p : Nat, p = i * s := ⟨_, rfl⟩
      have hpi : (i : Int) * (s : Int) = (p : Int) := by rw [hp]; simp
      have HSp := hide (span_c wr s k m i v (by omega) (by omega) (by omega) (by omega) (by omega) (by omega))
      rw [hpi] at HSp him
      obtain ⟨q, hq⟩ : ∃ q : Nat, q = min s (m - p) := ⟨_, rfl⟩
      have hqi : min (s : Int) ((m : Int) - (p : Int)) = (q : Int) := by omega
      rw [hqi] at HSp
      unfold sigV at HSp
      have hpc : piece D s i = (D.drop p).take s := by rw [hp]; rfl
      have HP := hide hpc
      clear hpi hpc hp
      have hsl : ∀ u : World, _ := fun u => slice_lh u a m c p q (p : Int) ((p : Int) + (q : Int)) rfl rfl (by omega) (by omega) hc
      have hpq : p + q ≤ 16777216 := by omega
      have hcp : q ≤ c - p := by omega
      have hq1 : q ≤ 4096 := by omega
      have hq2 : 0 < q := by omega
      have Hq := hide hq
      clear hq
      have d1 : decide ((i : Int) < (n : Int)) = true := by simpa using hlt
      go_wp2_with fail
      refine HSp.out.mono ?_
      rintro e w3 ⟨rfl, hb3⟩
      have HM3 := hide (HM.out.up hb3)
      clear hb3 HSp HM r0 r1 r2 r3
      go_wp2_with fail
      have HT3 : Hid (∀ u, Below w.heap.size w u → Tbl u ∧ Fst u ∧ SrcB u (a.map (·.add p)) q (piece D s i)) := hide (fun u hu => ⟨tbl_keep HT.out hu (Nat.le_refl _), fst_keep HF.out hu (Nat.le_refl _), by rw [HP.out]; exact src_piece (HS.out.below hu) p s q Hq.out (by omega)⟩)
      have Hmk := hide (mkB_snoc D s k i)
      have hbl : (mkB D s k i).length ≤ 1000000000 := by rw [mkB_length]; omega
      obtain ⟨aP, haP⟩ : ∃ aP, aP = a.map (·.add p) := ⟨_, rfl⟩
      rw [← haP] at HT3 ⊢
      clear haP hsl HP
      generalize piece D s i = L at *
      have hxok := blkOf_ok k hk L
      obtain ⟨x, hx⟩ : ∃ x, x = blkOf k L := ⟨_, rfl⟩
      rw [← hx] at hxok Hmk
      have Hxb : Hid (Tryd.prog.built 63 [(0, .int .u32 ((wkN L : Nat) : Int)), (1, .agg (u8s (cutL k (sha L))))] = some (blkC .u32 x).toArray) := hide (by rw [hx]; exact built_blk _ _ (Su.cutL_length k _ hk (sha_len L)))
      clear hx
      generalize mkB D s k i = bs at *
      have hCnt : Cnt (k : Int) k := by unfold Cnt; omega
      refine wp_region_h (MT .u32 63 26 w w.heap.size (w.heap.size + 1) (w.heap.size + 2) (.cells #[.int .i64 0, .int .i64 0, .int .i64 0, .slice none 0 0] 26) s k m v bs x)
        [some (some (.pointer (some ⟨w.heap.size + 1, 3, none⟩))), some (some v), some (some (.slice aP q (c - p))), some (some (.agg #[.int .i64 (q : Int), .int .u16 (Wm.lo (ints L)), .int .u16 (Wm.hi (ints L))])), some (some (.int .u32 ((wkN L : Nat) : Int))), some (some (.int .i64 (k : Int))), some (some (.slice aP q (c - p))), some (some (.agg (u8s (cutL k (sha L))))), some (some (.agg (blkC .u32 x).toArray)), none, none, some (some (.pointer (some ⟨w.heap.size + 1, 3, none⟩))), none]
        [3, 1, 3, 3, 3, 3, 3, 3, 3, 0, 0, 3, 0] (by kernel_rfl) (by kernel_rfl) [9, 10, 12] [9, 10, 12] rfl rfl (by kernel_rfl) (by kernel_rfl) HM3.out.drew ?_
      refine gF_step (by rfl) (fun h u K hL hT hK => ?_) ?_
      · go_simp
        exact hK _ hT
      simp only [Act.put, List.setIfInBounds_toArray, List.set_cons_zero, List.set_cons_succ]
      refine gF_step (by rfl) (fun h u K hL hT hK => ?_) ?_
      · obtain ⟨r0, r1, r2, r3⟩ := (hT.sig hL).cells
        go_simp
        exact hK _ hT
      simp only [Act.put, List.setIfInBounds_toArray, List.set_cons_zero, List.set_cons_succ]
      refine gF_step (by rfl) (fun h u K hL hT hK => ?_) ?_
      · go_simp
        exact hK _ hT
      simp only [Act.put, List.setIfInBounds_toArray, List.set_cons_zero, List.set_cons_succ]
      refine gF_step (by rfl) (fun h u K hL hT hK => ?_) ?_
      · go_simp
        go_at_call 29
        (with_reducible refine Calls.mono (weak_b aP q (c - p) L u (HT3.out u hT.base).2.2 (by omega)) ?_)
        rintro e u2 ⟨rfl, hu⟩
        exact hK _ (hT.up hu)
      simp only [Act.put, List.setIfInBounds_toArray, List.set_cons_zero, List.set_cons_succ]
      refine gF_step (by rfl) (fun h u K hL hT hK => ?_) ?_
      · go_simp
        go_at_call 30
        (with_reducible refine Calls.mono (value_b q L u) ?_)
        rintro e u2 ⟨rfl, hu⟩
        exact hK _ (hT.up hu)
      simp only [Act.put, List.setIfInBounds_toArray, List.set_cons_zero, List.set_cons_succ]
      refine gF_step (by rfl) (fun h u K hL hT hK => ?_) ?_
      · go_simp
        exact hK _ hT
      simp only [Act.put, List.setIfInBounds_toArray, List.set_cons_zero, List.set_cons_succ]
      refine gF_step (by rfl) (fun h u K hL hT hK => ?_) ?_
      · go_simp
        exact hK _ hT
      simp only [Act.put, List.setIfInBounds_toArray, List.set_cons_zero, List.set_cons_succ]
      refine gF_step (by rfl) (fun h u K hL hT hK => ?_) ?_
      · go_simp
        go_at_call 54
        (with_reducible refine Calls.mono (cut_b k k aP q (c - p) L u hCnt (HT3.out u hT.base).2.2 hcp (HT3.out u hT.base).1 (HT3.out u hT.base).2.1 (by omega)) ?_)
        rintro e u2 ⟨rfl, hu⟩
        exact hK _ (hT.up hu)
      simp only [Act.put, List.setIfInBounds_toArray, List.set_cons_zero, List.set_cons_succ]
      refine gF_step (by rfl) (fun h u K hL hT hK => ?_) ?_
      · exact kUpon_build_to 63 _ rfl [(0, .int .u32 ((wkN L : Nat) : Int)), (1, .agg (u8s (cutL k (sha L))))] rfl _ Hxb.out (hK _ hT)
      simp only [Act.put, List.setIfInBounds_toArray, List.set_cons_zero, List.set_cons_succ]
      refine gD_step (fun y => ∃ B, y = .slice (some ⟨B, 0, none⟩) 1 1) ⟨_, 0, rfl⟩ (by rfl) (fun u K hT hK => ?_) (fun y hy => ?_)
      · refine kUpon_slice_to 24 1 _ rfl [(0, blkV .u32 x)] rfl _ _ (one_blk u x hxok) (hK _ _ ⟨_, rfl⟩ ?_)
        exact ⟨MB.up hT (below_new _ _), _, rfl, _, _, heap_last _ _⟩
      obtain ⟨B, rfl⟩ := hy
      simp only [Act.put, List.setIfInBounds_toArray, List.set_cons_zero, List.set_cons_succ]
      refine gD_step (fun y => ∃ g n cap, y = .slice (some ⟨g, 0, none⟩) n cap) ⟨_, 0, 0, 0, rfl⟩ (by rfl) (fun u K hT hK => ?_) (fun y hy => ?_)
      · obtain ⟨hM, B', e, T', f', hB⟩ := hT
        simp only [Value.slice.injEq, Option.some.injEq, Addr.mk.injEq, and_true] at e
        subst e
        obtain ⟨v', u', hrun, ho, hg, -⟩ := append_bk .u32 24 63 _ 36 Tryd.underlying24 info_blk (by omega) (by kernel_rfl) u _ v _ bs B x T' f' 1 hM.own hM.Nu hxok hB hbl
        obtain ⟨g', n', cap', hv'⟩ := own_some ho (by simp)
        refine kUpon_append 24 (.tmp 45) (.tmp 53) rfl hrun (hK _ _ ⟨g', n', cap', hv'⟩ ?_)
        exact hM.append hg ho
      obtain ⟨g', n', cap', rfl⟩ := hy
      simp only [Act.put, List.setIfInBounds_toArray, List.set_cons_zero, List.set_cons_succ]
      refine gF_step (by rfl) (fun h u K hL hT hK => ?_) ?_
      · go_simp
        exact hK _ hT
      simp only [Act.put, List.setIfInBounds_toArray, List.set_cons_zero, List.set_cons_succ]
      refine gE_step (v := undef) (by rfl) (fun u K hT hK => ?_) ?_
      · have hM : MB .u32 63 26 w w.heap.size (w.heap.size + 1) (w.heap.size + 2) (.cells #[.int .i64 0, .int .i64 0, .int .i64 0, .slice none 0 0] 26) s k m v (.slice (some ⟨g', 0, none⟩) n' cap') (bs ++ [x]) u := hT
        obtain ⟨r0, r1, r2, r3⟩ := hM.sig.cells
        have f3 := hM.sig.free 3
        go_simp
        exact hK _ hM.store
      simp only [Act.put, List.setIfInBounds_toArray, List.set_cons_zero, List.set_cons_succ]
      refine g_nil (fun w4 hT4 => ?_)
      have HM4 : Hid (MB .u32 63 26 w w.heap.size (w.heap.size + 1) (w.heap.size + 2) (.cells #[.int .i64 0, .int .i64 0, .int .i64 0, .slice none 0 0] 26) s k m (.slice (some ⟨g', 0, none⟩) n' cap') (.slice (some ⟨g', 0, none⟩) n' cap') (bs ++ [x]) w4) := hide hT4
      rw [← Hmk.out] at HM4
      clear hT4 HM3 HT3
      go_wp2
      go_roundw
      case rel => exact ⟨i + 1, _, by go_num, by omega, HM4.out⟩
      case measure => simp [intOf]; omega
    · obtain rfl : i = n := by omega
      obtain ⟨av, cv, rfl⟩ : ∃ av cv, v = .slice av (mkB D s k i).length cv := by
        obtain ⟨_, av, cv, h, _⟩ := HM.out.own.is
        exact ⟨av, cv, h⟩
      have d1 : decide ((i : Int) < (i : Int)) = false := by simp
      obtain ⟨r0, r1, r2, r3⟩ := HM.out.sig.cells
      obtain ⟨s0, s1, s2, s3⟩ := sig_cells HM.out.res
      obtain ⟨nv, hnv⟩ : ∃ nv, nv = (mkB D s k i).length := ⟨_, rfl⟩
      rw [← hnv] at HM r3
      clear hnv
      obtain ⟨f0, f1, f2, f3⟩ := sig_free HM.out.res
      have hneq : w.heap.size + 1 ≠ w.heap.size := by omega
      go_wp2
      have e := sig_set HM.out.res (.int .i64 (s : Int)) (.int .i64 (k : Int)) (.int .i64 (m : Int)) (.slice av nv cv)
      have hg := grown_setCell (grown_setCell (grown_setCell (grown_setCell (World.grownBy.refl wr (some w.heap.size)) 0 (.int .i64 (s : Int))) 1 (.int .i64 (k : Int))) 2 (.int .i64 (m : Int))) 3 (.slice av nv cv)
      have ho := HM.out.own.kept hg (fun e => by have := (HM.out.own.own _ e).1; omega)
      refine bodyPost_ret (v := .tuple #[sigV s k m (.slice av nv cv), .int .i64 0]) ?_ rfl ⟨.slice av nv cv, rfl, ho, below_set4 HM.out.below (Nat.le_refl _) _ _ _ _⟩
      have hl := load_sig e
      simp [results, Tryd.results16, asAddr, hl]
end Go.Proofs.YtheambpddpfcfaaDoor.Kf
