/- Several texts, one behind the other. -/
import Derived.Test.YtkinpbhbgeiflaaDoorQe
import Derived.Test.YtkinpbhbgeiflaaDoorQf
import Derived.Test.YtkinpbhbgeiflaaDoorQd
import Derived.Laws.BytesArg
import Derived.Laws.BytesString
/- block.Make. -/
namespace Go.Proofs.YtkinpbhbgeiflaaDoor.Kf
set_option linter.unusedVariables false
set_option linter.unusedSimpArgs false
set_option maxRecDepth 100000
open Go.ChangeShapes Go.WideShapes Go.ChangeAt Go.RowKit
open Go.Proofs.YtkinpbhbgeiflaaDoor.Wu Go.Proofs.YtkinpbhbgeiflaaDoor.Sm Go.Proofs.YtkinpbhbgeiflaaDoor.Sh Go.Proofs.YtkinpbhbgeiflaaDoor.Ba Go.Proofs.YtkinpbhbgeiflaaDoor.Bp Go.Proofs.YtkinpbhbgeiflaaDoor.Ka Go.Proofs.YtkinpbhbgeiflaaDoor.Kb Go.Proofs.YtkinpbhbgeiflaaDoor.Kc Go.Proofs.YtkinpbhbgeiflaaDoor.Kd Go.Proofs.YtkinpbhbgeiflaaDoor.Ke Go.Proofs.YtkinpbhbgeiflaaDoor.Rk Go.Proofs.YtkinpbhbgeiflaaDoor.Rh Go.Proofs.YtkinpbhbgeiflaaDoor.Rw Go.Proofs.YtkinpbhbgeiflaaDoor.Rb1 Go.Proofs.YtkinpbhbgeiflaaDoor.Kg
open Go.Proofs.YtkinpbhbgeiflaaDoor.Sn (Fst fst_keep)
open Go.Proofs.YtkinpbhbgeiflaaDoor.Sxa (Tbl tbl_keep)
open Go.Proofs.YtkinpbhbgeiflaaDoor.Su (cutL Cnt)
attribute [local go_sem] kUpon_value kUpon_skip kUpon_enter
theorem load_sig {T : TypeId} {w : World} {S : Nat} {sz cut len : Int} {v : Value} (h : Sig4 T w S sz cut len v) : Sem.run Tryd.prog (loadVar 50 ⟨S, 0, none⟩) w = .ok (sigV sz cut len v) w :=
  load_all 50 h _ Tryd.underlying50 rfl (by kernel_rfl)
theorem sig_cells {w : World} {S : Nat} {x0 x1 x2 x3 : Value} {T : TypeId} {f : Nat × Nat} (h : w.heap[S]? = some (.cells #[x0, x1, x2, x3] T f)) : w.cell? ⟨S, 0, none⟩ = some x0 ∧ w.cell? ⟨S, 1, none⟩ = some x1 ∧ w.cell? ⟨S, 2, none⟩ = some x2 ∧ w.cell? ⟨S, 3, none⟩ = some x3 :=
  ⟨blk_cell h rfl, blk_cell h rfl, blk_cell h rfl, blk_cell h rfl⟩
theorem sig_free {w : World} {S : Nat} {c : Array Value} {T : TypeId} (h : w.heap[S]? = some (.cells c T (0, 0))) : w.frozen? ⟨S, 0, none⟩ = false ∧ w.frozen? ⟨S, 1, none⟩ = false ∧ w.frozen? ⟨S, 2, none⟩ = false ∧ w.frozen? ⟨S, 3, none⟩ = false :=
  ⟨blk_free h, blk_free h, blk_free h, blk_free h⟩
theorem sig_set {w : World} {S : Nat} {x0 x1 x2 x3 : Value} {T : TypeId} {f : Nat × Nat} (h : w.heap[S]? = some (.cells #[x0, x1, x2, x3] T f)) (y0 y1 y2 y3 : Value) :
    ((((w.setCell ⟨S, 0, none⟩ y0).setCell ⟨S, 1, none⟩ y1).setCell ⟨S, 2, none⟩ y2).setCell ⟨S, 3, none⟩ y3).heap[S]? = some (.cells #[y0, y1, y2, y3] T f) := by
  have := blk_set (i := 3) (blk_set (i := 2) (blk_set (i := 1) (blk_set (i := 0) h y0) y1) y2) y3
  rw [this]
  simp
theorem below_set4 {w u : World} {N B : Nat} (h : Below N u w) (hB : N ≤ B) (a b c d : Value) :
    Below N u ((((w.setCell ⟨B, 0, none⟩ a).setCell ⟨B, 1, none⟩ b).setCell ⟨B, 2, none⟩ c).setCell ⟨B, 3, none⟩ d) := (((h.setCell hB _).setCell hB _).setCell hB _).setCell hB _
set_option maxHeartbeats 1600000 in
theorem make_bad (a : Option Addr) (m c : Nat) (sz cut : Int) (w : World) (hm : m ≤ 9223372036854775807) (hf : fitsE sz cut m ≠ 0) :
    Calls Tryd.prog 22 #[.slice a m c, .int .i64 sz, .int .i64 cut] w fun e w' => e = .returned (.tuple #[sigV 0 0 0 (.slice none 0 0), .int .i64 (fitsE sz cut m)]) ∧ Below w.heap.size w w' := by
  have HC := hide (fun u : World => fits_c u sz cut (m : Int) (.slice none 0 0) rfl (by omega))
  have hb : (fitsE sz cut m != 0) = true := by simpa using hf
  generalize fitsE sz cut m = z at *
  clear hf hm
  unfold sigV at HC
  have HR := hide (heap_2a w (.cells #[.int .i64 0, .int .i64 0, .int .i64 0, .slice none 0 0] 50) (.cells #[.int .i64 sz, .int .i64 cut, .int .i64 (m : Int), .slice none 0 0] 50))
  have HB := hide (((Below.refl w.heap.size w).alloc (Nat.le_refl _) (.cells #[.int .i64 0, .int .i64 0, .int .i64 0, .slice none 0 0] 50)).alloc (by simp) (.cells #[.int .i64 sz, .int .i64 cut, .int .i64 (m : Int), .slice none 0 0] 50))
  go_enter Tryd.func22, Tryd.ntmps22
  go_wp2_with fail
  generalize ((w.alloc (.cells #[.int .i64 0, .int .i64 0, .int .i64 0, .slice none 0 0] 50)).alloc (.cells #[.int .i64 sz, .int .i64 cut, .int .i64 (m : Int), .slice none 0 0] 50)) = w1 at *
  refine (HC.out _).mono ?_
  rintro e w2 ⟨rfl, hb2⟩
  have HR2 := hide (below_blk hb2 (heap_lt HR.out) HR.out)
  have HB2 := hide (keepB hb2 (Nat.le_refl _) HB.out)
  clear hb2 HR HB HC
  obtain ⟨r0, r1, r2, r3⟩ := sig_cells HR2.out
  obtain ⟨f0, f1, f2, f3⟩ := sig_free HR2.out
  go_wp2
  have e := sig_set HR2.out (.int .i64 0) (.int .i64 0) (.int .i64 0) (.slice none 0 0)
  refine bodyPost_ret (v := .tuple #[sigV 0 0 0 (.slice none 0 0), .int .i64 z]) ?_ rfl ⟨rfl, below_set4 HB2.out (Nat.le_refl _) _ _ _ _⟩
  have hl := load_sig e
  simp [results, Tryd.results22, asAddr, hl]
theorem cnt_lt {m s i : Int} (hs : 1 ≤ s) (hm : 0 ≤ m) (hi0 : 0 ≤ i) (hi : i < cntZ m s) : i * s < m := by
  unfold cntZ at hi
  rw [if_neg (by omega)] at hi
  have h1 := Int.mul_ediv_add_emod m s
  have h2 := Int.emod_nonneg m (show s ≠ 0 by omega)
  generalize m / s = q at *
  generalize m % s = r at *
  by_cases h : i < q
  · have h3 : (i + 1) * s ≤ q * s := Int.mul_le_mul_of_nonneg_right (by omega) (by omega)
    rw [Int.add_mul, Int.one_mul] at h3
    rw [Int.mul_comm s q] at h1
    omega
  · split at hi
    · have : i = q := by omega
      subst this
      rw [Int.mul_comm s i] at h1
      omega
    · omega
theorem slice_lh (u : World) (a : Option Addr) (m c p n : Nat) (x y : Int) (hx : x = (p : Int)) (hy : y = (p : Int) + (n : Int)) (hn : 0 < n) (h : p + n ≤ m) (hc : m ≤ c) :
    Sem.run Tryd.prog (Instr.slice 22 (.slice a m c) (some (.int .i64 x)) (some (.int .i64 y)) none) u = .ok (.slice (a.map (·.add p)) n (c - p)) u := by
  subst hx hy
  rw [run_slice_lh u 22 a m c und_bs .i64 .i64 _ _ (by omega) (by omega) (by omega), elem_bs, size_u8]
  simp only [Result.andThen, sliced, Nat.mul_one]
  rw [if_neg (by omega), show ((p : Int)).toNat = p by omega, show ((p : Int) + (n : Int)).toNat = p + n by omega, show p + n - p = n by omega]
theorem src_piece {w : World} {a : Option Addr} {m : Nat} {D : List Nat} (h : SrcB w a m D) (p s n : Nat) (hn : n = min s (m - p)) (hp : p ≤ m) : SrcB w (a.map (·.add p)) n ((D.drop p).take s) := by
  obtain ⟨hl, h8, b, off, ha, hc⟩ := h
  refine ⟨by rw [List.length_take, List.length_drop]; omega, all8_take (all8_drop h8 _) _, b, off + p, fun h0 => ?_, fun j hj => ?_⟩
  · rw [ha (by omega)]; simp [Addr.add_mid]
  · rw [Nat.add_assoc, hc (p + j) (by omega)]
    simp only [List.getD, List.getElem?_take_of_lt (show j < s by omega), List.getElem?_drop]
theorem _root_.Go.Proofs.YtkinpbhbgeiflaaDoor.Ke.MB.drew {q : IntKind} {e T : TypeId} {w0 : World} {R S N : Nat} {rc : Obj} {sz cut len : Int} {v vo : Value} {bs : List Blk} {u : World} (H : MB q e T w0 R S N rc sz cut len v vo bs u) : MB q e T w0 R S N rc sz cut len v vo bs u.drew :=
  ⟨H.below.drew, H.hS, H.SN, H.RN, H.RS, H.Nu, H.sig, H.res, H.own⟩
theorem own_some {q : IntKind} {e : TypeId} {w : World} {N : Nat} {v : Value} {bs : List Blk} (h : OwnBks q e w N v bs) (hb : bs ≠ []) : ∃ g n cap, v = .slice (some ⟨g, 0, none⟩) n cap := by
  rcases h.2.2 with ⟨_, hn⟩ | ⟨g, cap, cur, rfl, _⟩
  · exact absurd (List.length_eq_zero_iff.1 hn) hb
  · exact ⟨_, _, _, rfl⟩
set_option maxHeartbeats 3200000 in
theorem make_ok (a : Option Addr) (m c : Nat) (D : List Nat) (s k n : Nat) (w : World) (hs : SrcB w a m D) (hc : m ≤ c) (hcm : c ≤ 9223372036854775807) (hf : fitsE (s : Int) (k : Int) m = 0) (hn : cntZ m s = (n : Int)) (hT : Tbl w) (hF : Fst w) :
    Calls Tryd.prog 22 #[.slice a m c, .int .i64 (s : Int), .int .i64 (k : Int)] w fun e w' => ∃ v, e = .returned (.tuple #[sigV s k m v, .int .i64 0]) ∧ OwnBks .u32 116 w' (w.heap.size + 2) v (mkB D s k n) ∧ Below w.heap.size w w' := by
  have hz := fitsE_zero hf
  have hm : m ≤ 16777216 := by omega
  have hs1 : 1 ≤ s := by omega
  have hs2 : s ≤ 4096 := by omega
  have hk : k ≤ 32 := by omega
  have hn4 : n ≤ 4096 := by omega
  have HC := hide (fits_c ((w.alloc (.cells #[.int .i64 0, .int .i64 0, .int .i64 0, .slice none 0 0] 50)).alloc (.cells #[.int .i64 (s : Int), .int .i64 (k : Int), .int .i64 (m : Int), .slice none 0 0] 50)) s k (m : Int) (.slice none 0 0) rfl (by omega))
  rw [hf] at HC
  have HN := hide (fun u : World => count_c u (m : Int) (s : Int) (by omega))
  rw [hn] at HN
  have HS := hide hs
  have HT := hide hT
  have HF := hide hF
  have Hn := hide hn
  have hlD := hs.1
  unfold sigV at HC
  clear hf hz hs hT hF hn
  have H0 : Hid (MB .u32 116 50 w w.heap.size (w.heap.size + 1) (w.heap.size + 2) (.cells #[.int .i64 0, .int .i64 0, .int .i64 0, .slice none 0 0] 50) s k m (.slice none 0 0) (.slice none 0 0) [] ((w.alloc (.cells #[.int .i64 0, .int .i64 0, .int .i64 0, .slice none 0 0] 50)).alloc (.cells #[.int .i64 (s : Int), .int .i64 (k : Int), .int .i64 (m : Int), .slice none 0 0] 50))) :=
    hide ⟨((Below.refl w.heap.size w).alloc (Nat.le_refl _) _).alloc (by simp) _, by omega, by omega, by omega, by omega, by simp, heap_2b w _ _, heap_2a w _ _, OwnBks.nil _ _ _ _⟩
  go_enter Tryd.func22, Tryd.ntmps22
  go_wp2_with fail
  generalize ((w.alloc (.cells #[.int .i64 0, .int .i64 0, .int .i64 0, .slice none 0 0] 50)).alloc (.cells #[.int .i64 (s : Int), .int .i64 (k : Int), .int .i64 (m : Int), .slice none 0 0] 50)) = w1 at *
  refine HC.out.mono ?_
  rintro e w2 ⟨rfl, hb2⟩
  have H2 := hide (H0.out.up hb2)
  clear hb2 HC H0
  go_wp2_with fail
  refine (HN.out _).mono ?_
  rintro e w2 ⟨rfl, rfl⟩
  clear HN
  go_wp2_with fail
  go_loopw [29] (fun j wr => ∃ i v, j = .int .i64 ((i : Nat) : Int) ∧ i ≤ n ∧ MB .u32 116 50 w w.heap.size (w.heap.size + 1) (w.heap.size + 2) (.cells #[.int .i64 0, .int .i64 0, .int .i64 0, .slice none 0 0] 50) s k m v v (mkB D s k i) wr) (fun j _ => n - (intOf j).toNat)
  case atStart => exact ⟨0, _, rfl, Nat.zero_le _, H2.out⟩
  case round =>
    clear H2
    obtain ⟨i, v, rfl, hi, hM⟩ := hrel
    have HM := hide hM
    clear hM
    by_cases hlt : i < n
    · obtain ⟨r0, r1, r2, r3⟩ := HM.out.sig.cells
      have him : (i : Int) * (s : Int) < (m : Int) := cnt_lt (by omega) (by omega) (by omega) (by rw [Hn.out]; omega)
      obtain ⟨p, hp⟩ : ∃ p : Nat, p = i * s := ⟨_, rfl⟩
      have hpi : (i : Int) * (s : Int) = (p : Int) := by rw [hp]; simp
      have HSp := hide (span_c wr s k m i v (by omega) (by omega) (by omega) (by omega) (by omega) (by omega))
      rw [hpi] at HSp him
      obtain ⟨q, hq⟩ : ∃ q : Nat, q = min s (m - p) := ⟨_, rfl⟩
      have hqi : min (s : Int) ((m : Int) - (p : Int)) = (q : Int) := by omega
      rw [hqi] at HSp
      unfold sigV at HSp
      have hpc : piece D s i = (D.drop p).take s := by rw [hp]; rfl
      have HP := hide hpc
      clear hpi hpc hp
      have hsl : ∀ u : World, _ := fun u => slice_lh u a m c p q (p : Int) ((p : Int) + (q : Int)) rfl rfl (by omega) (by omega) hc
      have hpq : p + q ≤ 16777216 := by omega
      have hcp : q ≤ c - p := by omega
      have hq1 : q ≤ 4096 := by omega
      have hq2 : 0 < q := by omega
      have Hq := hide hq
      clear hq
      have d1 : decide ((i : Int) < (n : Int)) = true := by simpa using hlt
      go_wp2_with fail
      refine HSp.out.mono ?_
      rintro e w3 ⟨rfl, hb3⟩
      have HM3 := hide (HM.out.up hb3)
      clear hb3 HSp HM r0 r1 r2 r3
      go_wp2_with fail
      have HT3 : Hid (∀ u, Below w.heap.size w u → Tbl u ∧ Fst u ∧ SrcB u (a.map (·.add p)) q (piece D s i)) := hide (fun u hu => ⟨tbl_keep HT.out hu (Nat.le_refl _), fst_keep HF.out hu (Nat.le_refl _), by rw [HP.out]; exact src_piece (HS.out.below hu) p s q Hq.out (by omega)⟩)
      have Hmk := hide (mkB_snoc D s k i)
      have hbl : (mkB D s k i).length ≤ 1000000000 := by rw [mkB_length]; omega
      obtain ⟨aP, haP⟩ : ∃ aP, aP = a.map (·.add p) := ⟨_, rfl⟩
      rw [← haP] at HT3 ⊢
      clear haP hsl HP
      generalize piece D s i = L at *
      have hxok := blkOf_ok k hk L
      obtain ⟨x, hx⟩ : ∃ x, x = blkOf k L := ⟨_, rfl⟩
      rw [← hx] at hxok Hmk
      have Hxb : Hid (Tryd.prog.built 116 [(0, .int .u32 ((wkN L : Nat) : Int)), (1, .agg (u8s (cutL k (sha L))))] = some (blkC .u32 x).toArray) := hide (by rw [hx]; exact built_blk _ _ (Su.cutL_length k _ hk (sha_len L)))
      clear hx
      generalize mkB D s k i = bs at *
      have hCnt : Cnt (k : Int) k := by unfold Cnt; omega
      refine wp_region_h (MT .u32 116 50 w w.heap.size (w.heap.size + 1) (w.heap.size + 2) (.cells #[.int .i64 0, .int .i64 0, .int .i64 0, .slice none 0 0] 50) s k m v bs x)
        [some (some (.pointer (some ⟨w.heap.size + 1, 3, none⟩))), some (some v), some (some (.slice aP q (c - p))), some (some (.agg #[.int .i64 (q : Int), .int .u16 (Wm.lo (ints L)), .int .u16 (Wm.hi (ints L))])), some (some (.int .u32 ((wkN L : Nat) : Int))), some (some (.int .i64 (k : Int))), some (some (.slice aP q (c - p))), some (some (.agg (u8s (cutL k (sha L))))), some (some (.agg (blkC .u32 x).toArray)), none, none, some (some (.pointer (some ⟨w.heap.size + 1, 3, none⟩))), none]
        [3, 1, 3, 3, 3, 3, 3, 3, 3, 0, 0, 3, 0] (by kernel_rfl) (by kernel_rfl) [9, 10, 12] [9, 10, 12] rfl rfl (by kernel_rfl) (by kernel_rfl) HM3.out.drew ?_
      refine gF_step (by rfl) (fun h u K hL hT hK => ?_) ?_
      · go_simp
        exact hK _ hT
      simp only [Act.put, List.setIfInBounds_toArray, List.set_cons_zero, List.set_cons_succ]
      refine gF_step (by rfl) (fun h u K hL hT hK => ?_) ?_
      · obtain ⟨r0, r1, r2, r3⟩ := (hT.sig hL).cells
        go_simp
        exact hK _ hT
      simp only [Act.put, List.setIfInBounds_toArray, List.set_cons_zero, List.set_cons_succ]
      refine gF_step (by rfl) (fun h u K hL hT hK => ?_) ?_
      · go_simp
        exact hK _ hT
      simp only [Act.put, List.setIfInBounds_toArray, List.set_cons_zero, List.set_cons_succ]
      refine gF_step (by rfl) (fun h u K hL hT hK => ?_) ?_
      · go_simp
        go_at_call 45
        (with_reducible refine Calls.mono (weak_b aP q (c - p) L u (HT3.out u hT.base).2.2 (by omega)) ?_)
        rintro e u2 ⟨rfl, hu⟩
        exact hK _ (hT.up hu)
      simp only [Act.put, List.setIfInBounds_toArray, List.set_cons_zero, List.set_cons_succ]
      refine gF_step (by rfl) (fun h u K hL hT hK => ?_) ?_
      · go_simp
        go_at_call 46
        (with_reducible refine Calls.mono (value_b q L u) ?_)
        rintro e u2 ⟨rfl, hu⟩
        exact hK _ (hT.up hu)
      simp only [Act.put, List.setIfInBounds_toArray, List.set_cons_zero, List.set_cons_succ]
      refine gF_step (by rfl) (fun h u K hL hT hK => ?_) ?_
      · go_simp
        exact hK _ hT
      simp only [Act.put, List.setIfInBounds_toArray, List.set_cons_zero, List.set_cons_succ]
      refine gF_step (by rfl) (fun h u K hL hT hK => ?_) ?_
      · go_simp
        exact hK _ hT
      simp only [Act.put, List.setIfInBounds_toArray, List.set_cons_zero, List.set_cons_succ]
      refine gF_step (by rfl) (fun h u K hL hT hK => ?_) ?_
      · go_simp
        go_at_call 47
        (with_reducible refine Calls.mono (cut_b k k aP q (c - p) L u hCnt (HT3.out u hT.base).2.2 hcp (HT3.out u hT.base).1 (HT3.out u hT.base).2.1 (by omega)) ?_)
        rintro e u2 ⟨rfl, hu⟩
        exact hK _ (hT.up hu)
      simp only [Act.put, List.setIfInBounds_toArray, List.set_cons_zero, List.set_cons_succ]
      refine gF_step (by rfl) (fun h u K hL hT hK => ?_) ?_
      · exact kUpon_build_to 116 _ rfl [(0, .int .u32 ((wkN L : Nat) : Int)), (1, .agg (u8s (cutL k (sha L))))] rfl _ Hxb.out (hK _ hT)
      simp only [Act.put, List.setIfInBounds_toArray, List.set_cons_zero, List.set_cons_succ]
      refine gD_step (fun y => ∃ B, y = .slice (some ⟨B, 0, none⟩) 1 1) ⟨_, 0, rfl⟩ (by rfl) (fun u K hT hK => ?_) (fun y hy => ?_)
      · refine kUpon_slice_to 48 1 _ rfl [(0, blkV .u32 x)] rfl _ _ (one_blk u x hxok) (hK _ _ ⟨_, rfl⟩ ?_)
        exact ⟨MB.up hT (below_new _ _), _, rfl, _, _, heap_last _ _⟩
      obtain ⟨B, rfl⟩ := hy
      simp only [Act.put, List.setIfInBounds_toArray, List.set_cons_zero, List.set_cons_succ]
      refine gD_step (fun y => ∃ g n cap, y = .slice (some ⟨g, 0, none⟩) n cap) ⟨_, 0, 0, 0, rfl⟩ (by rfl) (fun u K hT hK => ?_) (fun y hy => ?_)
      · obtain ⟨hM, B', e, T', f', hB⟩ := hT
        simp only [Value.slice.injEq, Option.some.injEq, Addr.mk.injEq, and_true] at e
        subst e
        obtain ⟨v', u', hrun, ho, hg, -⟩ := append_bk .u32 48 116 _ 36 Tryd.underlying48 info_blk (by omega) (by kernel_rfl) u _ v _ bs B x T' f' 1 hM.own hM.Nu hxok hB hbl
        obtain ⟨g', n', cap', hv'⟩ := own_some ho (by simp)
        refine kUpon_append 48 (.tmp 45) (.tmp 53) rfl hrun (hK _ _ ⟨g', n', cap', hv'⟩ ?_)
        exact hM.append hg ho
      obtain ⟨g', n', cap', rfl⟩ := hy
      simp only [Act.put, List.setIfInBounds_toArray, List.set_cons_zero, List.set_cons_succ]
      refine gF_step (by rfl) (fun h u K hL hT hK => ?_) ?_
      · go_simp
        exact hK _ hT
      simp only [Act.put, List.setIfInBounds_toArray, List.set_cons_zero, List.set_cons_succ]
      refine gE_step (v := undef) (by rfl) (fun u K hT hK => ?_) ?_
      · have hM : MB .u32 116 50 w w.heap.size (w.heap.size + 1) (w.heap.size + 2) (.cells #[.int .i64 0, .int .i64 0, .int .i64 0, .slice none 0 0] 50) s k m v (.slice (some ⟨g', 0, none⟩) n' cap') (bs ++ [x]) u := hT
        obtain ⟨r0, r1, r2, r3⟩ := hM.sig.cells
        have f3 := hM.sig.free 3
        go_simp
        exact hK _ hM.store
      simp only [Act.put, List.setIfInBounds_toArray, List.set_cons_zero, List.set_cons_succ]
      refine g_nil (fun w4 hT4 => ?_)
      have HM4 : Hid (MB .u32 116 50 w w.heap.size (w.heap.size + 1) (w.heap.size + 2) (.cells #[.int .i64 0, .int .i64 0, .int .i64 0, .slice none 0 0] 50) s k m (.slice (some ⟨g', 0, none⟩) n' cap') (.slice (some ⟨g', 0, none⟩) n' cap') (bs ++ [x]) w4) := hide hT4
      rw [← Hmk.out] at HM4
      clear hT4 HM3 HT3
      go_wp2
      go_roundw
      case rel => exact ⟨i + 1, _, by go_num, by omega, HM4.out⟩
      case measure => simp [intOf]; omega
    · obtain rfl : i = n := by omega
      obtain ⟨av, cv, rfl⟩ : ∃ av cv, v = .slice av (mkB D s k i).length cv := by
        obtain ⟨_, av, cv, h, _⟩ := HM.out.own.is
        exact ⟨av, cv, h⟩
      have d1 : decide ((i : Int) < (i : Int)) = false := by simp
      obtain ⟨r0, r1, r2, r3⟩ := HM.out.sig.cells
      obtain ⟨s0, s1, s2, s3⟩ := sig_cells HM.out.res
      obtain ⟨nv, hnv⟩ : ∃ nv, nv = (mkB D s k i).length := ⟨_, rfl⟩
      rw [← hnv] at HM r3
      clear hnv
      obtain ⟨f0, f1, f2, f3⟩ := sig_free HM.out.res
      have hneq : w.heap.size + 1 ≠ w.heap.size := by omega
      go_wp2
      have e := sig_set HM.out.res (.int .i64 (s : Int)) (.int .i64 (k : Int)) (.int .i64 (m : Int)) (.slice av nv cv)
      have hg := grown_setCell (grown_setCell (grown_setCell (grown_setCell (World.grownBy.refl wr (some w.heap.size)) 0 (.int .i64 (s : Int))) 1 (.int .i64 (k : Int))) 2 (.int .i64 (m : Int))) 3 (.slice av nv cv)
      have ho := HM.out.own.kept hg (fun e => by have := (HM.out.own.own _ e).1; omega)
      refine bodyPost_ret (v := .tuple #[sigV s k m (.slice av nv cv), .int .i64 0]) ?_ rfl ⟨.slice av nv cv, rfl, ho, below_set4 HM.out.below (Nat.le_refl _) _ _ _ _⟩
      have hl := load_sig e
      simp [results, Tryd.results22, asAddr, hl]
end Go.Proofs.YtkinpbhbgeiflaaDoor.Kf
/- block.Signature's Index. -/
namespace Go.Proofs.YtkinpbhbgeiflaaDoor.Kn
set_option linter.unusedVariables false
set_option linter.unusedSimpArgs false
set_option maxRecDepth 100000
open Go.ChangeShapes Go.WideShapes Go.ChangeAt Go.RowKit
open Go.Proofs.YtkinpbhbgeiflaaDoor.Wu Go.Proofs.YtkinpbhbgeiflaaDoor.Sm Go.Proofs.YtkinpbhbgeiflaaDoor.Sh Go.Proofs.YtkinpbhbgeiflaaDoor.Ba Go.Proofs.YtkinpbhbgeiflaaDoor.Bp Go.Proofs.YtkinpbhbgeiflaaDoor.Ka Go.Proofs.YtkinpbhbgeiflaaDoor.Kb Go.Proofs.YtkinpbhbgeiflaaDoor.Kc Go.Proofs.YtkinpbhbgeiflaaDoor.Kd Go.Proofs.YtkinpbhbgeiflaaDoor.Ke Go.Proofs.YtkinpbhbgeiflaaDoor.Rk Go.Proofs.YtkinpbhbgeiflaaDoor.Rh Go.Proofs.YtkinpbhbgeiflaaDoor.Rw Go.Proofs.YtkinpbhbgeiflaaDoor.Rb1 Go.Proofs.YtkinpbhbgeiflaaDoor.Kg Go.Proofs.YtkinpbhbgeiflaaDoor.Kh Go.Proofs.YtkinpbhbgeiflaaDoor.Ki Go.Proofs.YtkinpbhbgeiflaaDoor.Kj Go.Proofs.YtkinpbhbgeiflaaDoor.Km Go.Proofs.YtkinpbhbgeiflaaDoor.Kk Go.Proofs.YtkinpbhbgeiflaaDoor.Kl
attribute [local go_sem] kUpon_value kUpon_skip kUpon_enter
/-- What stays while the table grows: the signature in S, the table's own cells behind it. -/
structure Fix (w0 : World) (k : Nat) (sg : Array Value) (u : World) : Prop where
  below : Below w0.heap.size w0 u
  sig : u.heap[w0.heap.size]? = some (.cells sg 50 (0, 0))
  tbl : u.heap[w0.heap.size + 1 + 1]? = some (.cells #[.int .i64 (k : Int), .map (some (w0.heap.size + 1))] 166 (0, 0))
  size : w0.heap.size + 3 ≤ u.heap.size
theorem Fix.up {w0 : World} {k : Nat} {sg : Array Value} {u u' : World} (h : Fix w0 k sg u) (hb : Below u.heap.size u u') : Fix w0 k sg u' :=
  ⟨keepB hb (Nat.le_refl _) h.below, below_blk hb (heap_lt h.sig) h.sig, below_blk hb (heap_lt h.tbl) h.tbl, Nat.le_trans h.size hb.size⟩
theorem Fix.grown {w0 : World} {k : Nat} {sg : Array Value} {u u' : World} {row : Option Nat} (h : Fix w0 k sg u) (hg : u.grownBy u' row) (hr : ∀ g, row = some g → g = w0.heap.size + 1 ∨ w0.heap.size + 3 ≤ g) : Fix w0 k sg u' :=
  ⟨h.below.grown hg h.below.size (fun g hgr => by rcases hr g hgr with h | h <;> omega), (hg.block _ (heap_lt h.sig) (fun e => by rcases hr _ e.symm with h | h <;> omega)).trans h.sig, (hg.block _ (heap_lt h.tbl) (fun e => by rcases hr _ e.symm with h | h <;> omega)).trans h.tbl, Nat.le_trans h.size hg.size⟩
/-- The stages of the round's region. -/
def IT (w0 : World) (k : Nat) (sg : Array Value) (l : List (Value × Value)) (G : Nat → List Plc) (B x : Nat) (b : Blk) (v0 : Value) (p : Plc) : List Value → World → Prop
  | [], u => Fix w0 k sg u ∧ Tab u (w0.heap.size + 1) (w0.heap.size + 3) l G ∧ u.heap[B]? = some (.cells (blkC .u32 b).toArray 116 (0, 0)) ∧ OwnP u (w0.heap.size + 3) v0 (G x)
  | [c], u => (Fix w0 k sg u ∧ Tab u (w0.heap.size + 1) (w0.heap.size + 3) l G ∧ u.heap[B]? = some (.cells (blkC .u32 b).toArray 116 (0, 0)) ∧ OwnP u (w0.heap.size + 3) v0 (G x)) ∧ ∃ C, c = .slice (some ⟨C, 0, none⟩) 1 1 ∧ ∃ T f, u.heap[C]? = some (.cells (plcC p).toArray T f)
  | [_, v], u => Fix w0 k sg u ∧ Tab2 u (w0.heap.size + 1) (w0.heap.size + 3) l G x v (G x ++ [p]) ∧ u.heap[B]? = some (.cells (blkC .u32 b).toArray 116 (0, 0))
  | [_, _, _], u => Fix w0 k sg u ∧ ∃ l', l'.length ≤ l.length + 1 ∧ Tab u (w0.heap.size + 1) (w0.heap.size + 3) l' (fun y => if y = x then G x ++ [p] else G y)
  | _, _ => False
section
variable {w0 : World} {k : Nat} {sg : Array Value} {l : List (Value × Value)} {G : Nat → List Plc} {B x : Nat} {b : Blk} {v0 : Value} {p : Plc}
theorem IT.up {h : List Value} {u u' : World} (H : IT w0 k sg l G B x b v0 p h u) (hb : Below u.heap.size u u') : IT w0 k sg l G B x b v0 p h u' := by
  match h, H with
  | [], ⟨h1, h2, h3, h4⟩ => exact ⟨h1.up hb, h2.below hb, below_blk hb (heap_lt h3) h3, h4.below hb⟩
  | [_], ⟨⟨h1, h2, h3, h4⟩, C, h5, T, f, h6⟩ => exact ⟨⟨h1.up hb, h2.below hb, below_blk hb (heap_lt h3) h3, h4.below hb⟩, C, h5, T, f, below_blk hb (heap_lt h6) h6⟩
  | [_, _], ⟨h1, h2, h3⟩ => exact ⟨h1.up hb, h2.below hb, below_blk hb (heap_lt h3) h3⟩
  | [_, _, _], ⟨h1, l', h2, h3⟩ => exact ⟨h1.up hb, l', h2, h3.below hb⟩
theorem IT.fix {h : List Value} {u : World} (H : IT w0 k sg l G B x b v0 p h u) : Fix w0 k sg u := by
  match h, H with
  | [], H => exact H.1
  | [_], H => exact H.1.1
  | [_, _], H => exact H.1
  | [_, _, _], H => exact H.1
theorem IT.blk {h : List Value} {u : World} (H : IT w0 k sg l G B x b v0 p h u) (hl : h.length ≤ 2) : u.heap[B]? = some (.cells (blkC .u32 b).toArray 116 (0, 0)) := by
  match h, H with
  | [], H => exact H.2.2.1
  | [_], H => exact H.1.2.2.1
  | [_, _], H => exact H.2.2
  | [_, _, _], H => simp at hl
theorem IT.tab {h : List Value} {u : World} (H : IT w0 k sg l G B x b v0 p h u) (hl : h.length ≤ 1) : Tab u (w0.heap.size + 1) (w0.heap.size + 3) l G := by
  match h, H with
  | [], H => exact H.2.1
  | [_], H => exact H.1.2.1
  | [_, _], H => simp at hl
  | [_, _, _], H => simp at hl
end
theorem IT.drew {w0 : World} {k : Nat} {sg : Array Value} {l : List (Value × Value)} {G : Nat → List Plc} {B x : Nat} {b : Blk} {v0 : Value} {p : Plc} {u : World} (H : IT w0 k sg l G B x b v0 p [] u) : IT w0 k sg l G B x b v0 p [] u.drew := by
  obtain ⟨h1, h2, h3, h4⟩ := H
  exact ⟨⟨h1.below.drew, h1.sig, h1.tbl, h1.size⟩, ⟨h2.map, h2.low, h2.entry, h2.absent, h2.apart⟩, h3, h4⟩
theorem _root_.Go.Proofs.YtkinpbhbgeiflaaDoor.Kk.Tab.kept {w w' : World} {M N k : Nat} {l : List (Value × Value)} {G : Nat → List Plc} (h : Tab w M N l G) (hg : w.grownBy w' (some k)) (hp : ∀ p ∈ l, p.2.ownBlock = none ∨ p.2.ownBlock ≠ some k) (hk : M ≠ k) : Tab w' M N l G :=
  ⟨h.map.same (hg.block M h.map.lt (fun e => hk (by injection e))), h.low, fun p hp' => by obtain ⟨x, h1, h2, h3⟩ := h.entry p hp'; exact ⟨x, h1, h2, h3.kept hg (hp p hp')⟩, h.absent, h.apart⟩
theorem _root_.Go.Proofs.YtkinpbhbgeiflaaDoor.Kk.Tab.look {w : World} {M N : Nat} {l : List (Value × Value)} {G : Nat → List Plc} (h : Tab w M N l G) {x : Nat} (hx : x < 4294967296) {v : Value} (hv : ∀ u : World, u.heap[M]? = w.heap[M]? → (Instr.lookup 164 (.map (some M)) (.int .u32 (x : Int)) false).run Tryd.prog u = .ok v u)
    (u : World) (hu : MapL Tryd.prog 108 u M l) : (Instr.lookup 164 (.map (some M)) (.int .u32 (x : Int)) false).run Tryd.prog u = .ok v u := by
  have h0 := hv w rfl
  rcases h.map.look (t := 164) false law_u32 Tryd.underlying164 (zero_sl w) (key_u32 hx) with ⟨h1, hno⟩ | ⟨v1, hv1, h1⟩
  · rcases hu.look (t := 164) false law_u32 Tryd.underlying164 (zero_sl u) (key_u32 hx) with ⟨h2, _⟩ | ⟨v2, hv2, _⟩
    · rw [h1] at h0; injection h0 with h0; rw [h2, ← h0]
    · exact absurd rfl (hno _ hv2)
  · rcases hu.look (t := 164) false law_u32 Tryd.underlying164 (zero_sl u) (key_u32 hx) with ⟨h2, hno⟩ | ⟨v2, hv2, h2⟩
    · exact absurd rfl (hno _ hv1)
    · rw [h1] at h0; injection h0 with h0; rw [h2, hu.one hv2 hv1]; rw [← h0]
theorem ownP_some {w : World} {N : Nat} {v : Value} {ps : List Plc} (h : OwnP w N v ps) (hb : ps ≠ []) : ∃ g n cap, v = .slice (some ⟨g, 0, none⟩) n cap := by
  rcases h.2.2 with ⟨_, hn⟩ | ⟨g, cap, cur, rfl, _⟩
  · exact absurd (List.length_eq_zero_iff.1 hn) hb
  · exact ⟨_, _, _, rfl⟩
/-- What Index answers. -/
def IndexP (w : World) (k : Nat) (s l : Nat) (bs : List Blk) (e : Ending) (w' : World) : Prop :=
  e = .returned (.pointer (some ⟨w.heap.size + 1 + 1, 0, none⟩)) ∧ w'.heap[w.heap.size + 1 + 1]? = some (.cells #[.int .i64 (k : Int), .map (some (w.heap.size + 1))] 166 (0, 0)) ∧ (∃ es, Tab w' (w.heap.size + 1) (w.heap.size + 3) es (grp s l bs bs.length)) ∧ Below w.heap.size w w'
set_option maxHeartbeats 3200000 in
theorem index_c (w : World) (s k l m c : Nat) (a : Option Addr) (bs : List Blk) (hb : IsBks .u32 w (.slice a m c) bs) (hm : bs.length = m) (hch : checkE s k l bs = 0) :
    Calls Tryd.prog 49 #[sigV s k l (.slice a m c)] w (IndexP w k s l bs) := by
  have hf : fitsE s k l = 0 := by
    unfold checkE at hch
    split at hch
    · exact hch
    · rename_i h; simpa using h
  have hz := fitsE_zero hf
  have hmn : (m : Int) = cntZ l s := by
    unfold checkE at hch
    rw [if_neg (by simpa using hf)] at hch
    split at hch
    · cases hch
    · rename_i h; rw [← hm]; omega
  have h4 : m ≤ 4096 := by omega
  have Hmn := hide hmn
  have hs1 : 1 ≤ s := by omega
  have hs2 : s ≤ 4096 := by omega
  have hk : k ≤ 32 := by omega
  have hl : l ≤ 16777216 := by omega
  have HC := hide (fun (u : World) (hu : Below w.heap.size w u) => check_c u s k l (.slice a m c) bs (hb.below hu) (by omega) (by omega))
  rw [hch] at HC
  obtain ⟨a', c', g, off, hv, hmc, hcm, ha, hat⟩ := hb.at
  rw [hm] at hv hmc ha
  injection hv with h1 h2 h3
  subst h1 h3
  have Hat := hide hat
  have HM := hide hm
  clear hat h2 hb hf hz hmn hch hm
  have H0 : Hid (Fix w k #[.int .i64 (s : Int), .int .i64 (k : Int), .int .i64 (l : Int), .slice a m c] (((w.alloc (.cells #[.int .i64 (s : Int), .int .i64 (k : Int), .int .i64 (l : Int), .slice a m c] 50)).alloc (.map #[] 0)).alloc (.cells #[.int .i64 (k : Int), .map (some (w.heap.size + 1))] 166)) ∧ Tab (((w.alloc (.cells #[.int .i64 (s : Int), .int .i64 (k : Int), .int .i64 (l : Int), .slice a m c] 50)).alloc (.map #[] 0)).alloc (.cells #[.int .i64 (k : Int), .map (some (w.heap.size + 1))] 166)) (w.heap.size + 1) (w.heap.size + 3) [] (fun _ => [])) := by
    have ht := (Tab.made (w.alloc (.cells #[.int .i64 (s : Int), .int .i64 (k : Int), .int .i64 (l : Int), .slice a m c] 50))).below (below_new _ (.cells #[.int .i64 (k : Int), .map (some (w.heap.size + 1))] 166))
    simp only [World.size_alloc] at ht
    refine hide ⟨⟨(((Below.refl w.heap.size w).alloc (Nat.le_refl _) _).alloc (by simp) _).alloc (by simp; omega) _, heap_old (heap_2a w _ _) _, heap_3c w _ _ _, by simp⟩, ht.raise rfl (by omega)⟩
  unfold sigV at HC ⊢
  go_enter Tryd.func49, Tryd.ntmps49
  have hmm := @run_makeMap Tryd.prog
  go_wp2_with fail
  clear hmm
  generalize (((w.alloc (.cells #[.int .i64 (s : Int), .int .i64 (k : Int), .int .i64 (l : Int), .slice a m c] 50)).alloc (.map #[] 0)).alloc (.cells #[.int .i64 (k : Int), .map (some (w.heap.size + 1))] 166)) = w1 at *
  (with_reducible refine Calls.mono (HC.out w1 H0.out.1.below) ?_)
  rintro e w2 ⟨rfl, hb2⟩
  have H2 : Hid (Fix w k #[.int .i64 (s : Int), .int .i64 (k : Int), .int .i64 (l : Int), .slice a m c] w2 ∧ Tab w2 (w.heap.size + 1) (w.heap.size + 3) [] (fun _ => [])) := hide ⟨H0.out.1.up hb2, H0.out.2.below hb2⟩
  clear hb2 H0 HC
  obtain ⟨c0, c1, c2, c3⟩ := Sig4.cells (T := 50) H2.out.1.sig
  go_wp2_with fail
  clear c0 c1 c2 c3
  go_loopw [20] (fun j wr => ∃ i es, j = .int .i64 ((i : Nat) : Int) ∧ i ≤ m ∧ es.length ≤ i ∧ Fix w k #[.int .i64 (s : Int), .int .i64 (k : Int), .int .i64 (l : Int), .slice a m c] wr ∧ Tab wr (w.heap.size + 1) (w.heap.size + 3) es (grp s l bs i)) (fun j _ => m - (intOf j).toNat)
  case atStart => exact ⟨0, [], rfl, Nat.zero_le _, Nat.zero_le _, H2.out.1, by rw [grp_zero]; exact H2.out.2⟩
  case round =>
    clear H2
    obtain ⟨i, es, rfl, hi, hes, hx, ht⟩ := hrel
    have HX := hide hx
    have HT := hide ht
    clear hx ht
    by_cases hlt : i < m
    · obtain ⟨b, hb⟩ : ∃ b, bs[i]? = some b := ⟨bs[i]'(by rw [HM.out]; exact hlt), by rw [List.getElem?_eq_getElem]⟩
      obtain ⟨hbok, hr0⟩ := Hat.out i b hb
      have HR := hide (fun u (hu : Below w.heap.size w u) => range_below hr0 hu)
      have ha1 := ha (by omega)
      subst ha1
      have Hb := hide hb
      have Hst := hide (grp_step s l bs i b hb)
      clear hr0 hb ha
      have d1 : decide ((i : Int) < (m : Int)) = true := by simpa using hlt
      have i1 : (0 : Int) ≤ (i : Int) := by omega
      have i2 : (i : Int) < (m : Int) := by omega
      have hsz : (blkC .u32 b).length = 33 := blkC_length hbok
      go_wp2_with (first
        | (refine wpList_load_part rfl 116 (.tmp 23) rfl g (off + i * 33) (blkC .u32 b) rfl (HR.out _ HX.out.below) _ Tryd.underlying116 rfl (by rw [hsz]; kernel_rfl) ?_)
        | (refine wpList_store_all rfl 116 (.tmp 5) (.tmp 24) rfl wr.heap.size (blkC .u32 b).toArray _ 116 rfl rfl (heap_last _ _) (by rw [List.size_toArray, hsz]; rfl) (by rw [List.size_toArray, hsz]; kernel_rfl) (all_oneCell_toArray (blkC_one _ _)) ?_))
      intro w5 H5 HG5
      refine of_hid ?_
      have hX1 := HX.out.up (below_new wr (.cells (blkC .u32 ⟨0, zeros 32⟩).toArray 116))
      have hT1 := HT.out.below (below_new wr (.cells (blkC .u32 ⟨0, zeros 32⟩).toArray 116))
      have hws := HX.out.size
      have hX5 : Fix w k #[.int .i64 (s : Int), .int .i64 (k : Int), .int .i64 (l : Int), .slice (some ⟨g, off, none⟩) m c] w5 := hX1.grown HG5.out (fun q hq => .inr (by injection hq with hq; omega))
      have hT5 := hT1.kept (k := wr.heap.size) HG5.out (fun p hp => by
        cases hbo : p.2.ownBlock with
        | none => exact .inl rfl
        | some q =>
          obtain ⟨y, _, _, h3⟩ := HT.out.entry p hp
          have := (h3.own q hbo).2
          exact .inr (fun e => by injection e with e; omega)) (by omega)
      obtain ⟨v0, hlk, hv, hal⟩ := HT.out.at hbok.1
      have hvb : v0.ownBlock ≠ some wr.heap.size := fun e => by have := (hv.own _ e).2; omega
      have hv5 := (hv.below (below_new wr (.cells (blkC .u32 ⟨0, zeros 32⟩).toArray 116))).kept HG5.out (.inr hvb)
      have HX5 := hide hX5
      have HT5 := hide hT5
      have Hv5 := hide hv5
      have Hv0 := hide hvb
      have Hal := hide hal
      have Hlk : Hid (∀ u : World, MapL Tryd.prog 108 u (w.heap.size + 1) es → (Instr.lookup 164 (.map (some (w.heap.size + 1))) (.int .u32 (b.w : Int)) false).run Tryd.prog u = .ok v0 u) := hide (HT.out.look hbok.1 hlk)
      clear hX1 hT1 hX5 hT5 hlk hv hal hvb hv5 HX HT HG5 HR
      generalize wr.heap.size = B at *
      obtain ⟨n, hn⟩ : ∃ n, n = min s (l - i * s) := ⟨_, rfl⟩
      have him : (i : Int) * (s : Int) < (l : Int) := Kf.cnt_lt (by omega) (by omega) (by omega) (by rw [← Hmn.out]; omega)
      have e0 : (i : Int) * (s : Int) = ((i * s : Nat) : Int) := by simp
      have HSp := hide (span_c w5 s k l i (.slice (some ⟨g, off, none⟩) m c) (by omega) (by omega) (by omega) (by omega) (by omega) (by omega))
      have hni : min (s : Int) ((l : Int) - (i : Int) * (s : Int)) = (n : Int) := by rw [hn, e0]; omega
      rw [hni] at HSp
      rw [← hn] at Hst
      unfold sigV at HSp
      clear hni hn him e0
      obtain ⟨c0, c1, c2, c3⟩ := Sig4.cells (T := 50) HX5.out.sig
      go_wp2_with fail
      refine HSp.out.mono ?_
      rintro e w6 ⟨rfl, hb6⟩
      have H0 : Hid (IT w k #[.int .i64 (s : Int), .int .i64 (k : Int), .int .i64 (l : Int), .slice (some ⟨g, off, none⟩) m c] es (grp s l bs i) B b.w b v0 ⟨i, n, b⟩ [] w6) := hide ⟨HX5.out.up hb6, HT5.out.below hb6, below_blk hb6 (heap_lt H5.out) H5.out, Hv5.out.below hb6⟩
      clear hb6 HSp HX5 HT5 Hv5 H5 c0 c1 c2 c3
      go_wp2_with fail
      refine wp_region_h (IT w k #[.int .i64 (s : Int), .int .i64 (k : Int), .int .i64 (l : Int), .slice (some ⟨g, off, none⟩) m c] es (grp s l bs i) B b.w b v0 ⟨i, n, b⟩)
        [some (some (.pointer (some ⟨w.heap.size + 1 + 1, 0, none⟩))), some (some (.pointer (some ⟨w.heap.size + 1 + 1, 0, none⟩))), some (some (.pointer (some ⟨w.heap.size + 1 + 1, 1, none⟩))), some (some (.map (some (w.heap.size + 1)))), some (some (.pointer (some ⟨B, 0, none⟩))), some (some (.int .u32 (b.w : Int))), some (some (.pointer (some ⟨w.heap.size + 1 + 1, 0, none⟩))), some (some (.pointer (some ⟨w.heap.size + 1 + 1, 0, none⟩))), some (some (.pointer (some ⟨w.heap.size + 1 + 1, 1, none⟩))), some (some (.map (some (w.heap.size + 1)))), some (some (.pointer (some ⟨B, 0, none⟩))), some (some (.int .u32 (b.w : Int))), some (some v0), some (some (.int .i64 (i : Int))), some (some (.int .i64 (n : Int))), some (some (blkV .u32 b)), some (some (.agg (plcC ⟨i, n, b⟩).toArray)), none, none, none] [3, 3, 3, 3, 3, 2, 3, 3, 3, 3, 3, 2, 1, 3, 3, 2, 3, 0, 0, 0] (by kernel_rfl) (by kernel_rfl) [17, 18, 19] [17, 18, 19] rfl rfl (by kernel_rfl) (by kernel_rfl) (IT.drew H0.out) ?_
      refine gF_step (by rfl) (fun h u K hL hT hK => ?_) ?_
      · go_simp
        exact hK _ hT
      simp only [Act.put, List.setIfInBounds_toArray, List.set_cons_zero, List.set_cons_succ]
      refine gF_step (by rfl) (fun h u K hL hT hK => ?_) ?_
      · go_simp
        exact hK _ hT
      simp only [Act.put, List.setIfInBounds_toArray, List.set_cons_zero, List.set_cons_succ]
      refine gF_step (by rfl) (fun h u K hL hT hK => ?_) ?_
      · go_simp
        exact hK _ hT
      simp only [Act.put, List.setIfInBounds_toArray, List.set_cons_zero, List.set_cons_succ]
      refine gF_step (by rfl) (fun h u K hL hT hK => ?_) ?_
      · have c1 : u.cell? ⟨w.heap.size + 1 + 1, 1, none⟩ = some (.map (some (w.heap.size + 1))) := blk_cell hT.fix.tbl rfl
        go_simp
        exact hK _ hT
      simp only [Act.put, List.setIfInBounds_toArray, List.set_cons_zero, List.set_cons_succ]
      refine gF_step (by rfl) (fun h u K hL hT hK => ?_) ?_
      · go_simp
        exact hK _ hT
      simp only [Act.put, List.setIfInBounds_toArray, List.set_cons_zero, List.set_cons_succ]
      refine gF_step (by rfl) (fun h u K hL hT hK => ?_) ?_
      · have c0 : u.cell? ⟨B, 0, none⟩ = some (.int .u32 (b.w : Int)) := blk_cell (hT.blk hL) rfl
        go_simp
        exact hK _ hT
      simp only [Act.put, List.setIfInBounds_toArray, List.set_cons_zero, List.set_cons_succ]
      refine gF_step (by rfl) (fun h u K hL hT hK => ?_) ?_
      · go_simp
        exact hK _ hT
      simp only [Act.put, List.setIfInBounds_toArray, List.set_cons_zero, List.set_cons_succ]
      refine gF_step (by rfl) (fun h u K hL hT hK => ?_) ?_
      · go_simp
        exact hK _ hT
      simp only [Act.put, List.setIfInBounds_toArray, List.set_cons_zero, List.set_cons_succ]
      refine gF_step (by rfl) (fun h u K hL hT hK => ?_) ?_
      · go_simp
        exact hK _ hT
      simp only [Act.put, List.setIfInBounds_toArray, List.set_cons_zero, List.set_cons_succ]
      refine gF_step (by rfl) (fun h u K hL hT hK => ?_) ?_
      · have c1 : u.cell? ⟨w.heap.size + 1 + 1, 1, none⟩ = some (.map (some (w.heap.size + 1))) := blk_cell hT.fix.tbl rfl
        go_simp
        exact hK _ hT
      simp only [Act.put, List.setIfInBounds_toArray, List.set_cons_zero, List.set_cons_succ]
      refine gF_step (by rfl) (fun h u K hL hT hK => ?_) ?_
      · go_simp
        exact hK _ hT
      simp only [Act.put, List.setIfInBounds_toArray, List.set_cons_zero, List.set_cons_succ]
      refine gF_step (by rfl) (fun h u K hL hT hK => ?_) ?_
      · have c0 : u.cell? ⟨B, 0, none⟩ = some (.int .u32 (b.w : Int)) := blk_cell (hT.blk hL) rfl
        go_simp
        exact hK _ hT
      simp only [Act.put, List.setIfInBounds_toArray, List.set_cons_zero, List.set_cons_succ]
      refine gF_step (by rfl) (fun h u K hL hT hK => ?_) ?_
      · exact kUpon_look 164 (.tmp 40) (.tmp 42) false rfl v0 (.map (some (w.heap.size + 1))) (.int .u32 (b.w : Int)) rfl rfl (Hlk.out u (hT.tab hL).map) (hK _ hT)
      simp only [Act.put, List.setIfInBounds_toArray, List.set_cons_zero, List.set_cons_succ]
      refine gF_step (by rfl) (fun h u K hL hT hK => ?_) ?_
      · go_simp
        exact hK _ hT
      simp only [Act.put, List.setIfInBounds_toArray, List.set_cons_zero, List.set_cons_succ]
      refine gF_step (by rfl) (fun h u K hL hT hK => ?_) ?_
      · go_simp
        exact hK _ hT
      simp only [Act.put, List.setIfInBounds_toArray, List.set_cons_zero, List.set_cons_succ]
      refine gF_step (by rfl) (fun h u K hL hT hK => ?_) ?_
      · exact kUpon_load_all 116 (.tmp 5) rfl B (blkC .u32 b).toArray 116 (0, 0) rfl (hT.blk hL) _ Tryd.underlying116 rfl (by rw [List.size_toArray, hsz]; kernel_rfl) (hK _ hT)
      simp only [Act.put, List.setIfInBounds_toArray, List.set_cons_zero, List.set_cons_succ]
      refine gF_step (by rfl) (fun h u K hL hT hK => ?_) ?_
      · exact kUpon_build_to 169 _ rfl [(0, .int .i64 (i : Int)), (1, .int .i64 (n : Int)), (2, blkV .u32 b)] rfl _ (built_plc i n b hbok) (hK _ hT)
      simp only [Act.put, List.setIfInBounds_toArray, List.set_cons_zero, List.set_cons_succ]
      refine gD_step (fun y => ∃ C, y = .slice (some ⟨C, 0, none⟩) 1 1) ⟨_, 0, rfl⟩ (by rfl) (fun u K hT hK => ?_) (fun y hy => ?_)
      · refine kUpon_slice_to 167 1 _ rfl [(0, .agg (plcC ⟨i, n, b⟩).toArray)] rfl _ _ (one_plc u ⟨i, n, b⟩ hbok) (hK _ _ ⟨_, rfl⟩ ?_)
        exact ⟨IT.up (h := []) hT (below_new _ _), _, rfl, _, _, heap_last _ _⟩
      obtain ⟨C, rfl⟩ := hy
      simp only [Act.put, List.setIfInBounds_toArray, List.set_cons_zero, List.set_cons_succ]
      refine gD_step (fun y => ∃ g n cap, y = .slice (some ⟨g, 0, none⟩) n cap) ⟨_, 0, 0, 0, rfl⟩ (by rfl) (fun u K hT hK => ?_) (fun y hy => ?_)
      · obtain ⟨⟨hx, ht, hB5, hv⟩, C', e, T', f', hC⟩ := hT
        simp only [Value.slice.injEq, Option.some.injEq, Addr.mk.injEq, and_true] at e
        subst e
        obtain ⟨v', u', hrun, ho, hg, hown⟩ := append_plc u _ v0 _ (grp s l bs i b.w) C ⟨i, n, b⟩ T' f' 1 hv hx.size hbok hC (Nat.le_trans (grp_length _ _ _ _ _) (by omega))
        obtain ⟨g', n', cap', hv'⟩ := ownP_some ho (by simp)
        refine kUpon_append 167 (.tmp 43) (.tmp 48) rfl hrun (hK _ _ ⟨g', n', cap', hv'⟩ ?_)
        refine ⟨hx.grown hg (fun q hq => .inr (hv.own q hq).1), Kl.Tab.append ht hv Hal.out hg ho hown, ?_⟩
        exact (hg.block B (heap_lt hB5) (fun e => Hv0.out (by rw [← e]))).trans hB5
      obtain ⟨g', n', cap', rfl⟩ := hy
      simp only [Act.put, List.setIfInBounds_toArray, List.set_cons_zero, List.set_cons_succ]
      refine gE_step (v := undef) (by rfl) (fun u K hT hK => ?_) ?_
      · obtain ⟨hx, ht, hB5⟩ := hT
        obtain ⟨l', u', hr, ht', hg, hll⟩ := ht.store hbok.1 (by unfold maxLen; omega)
        refine kUpon_put 164 (.tmp 34) (.tmp 36) (.tmp 49) rfl (.map (some (w.heap.size + 1))) (.int .u32 (b.w : Int)) (.slice (some ⟨g', 0, none⟩) n' cap') rfl rfl rfl hr (hK _ ?_)
        exact ⟨hx.grown hg (fun q hq => by injection hq with hq; omega), l', hll, ht'⟩
      simp only [Act.put, List.setIfInBounds_toArray, List.set_cons_zero, List.set_cons_succ]
      refine g_nil (fun w7 hT7 => ?_)
      obtain ⟨hx7, l', hl', ht7⟩ := hT7
      rw [← Hst.out] at ht7
      have HX7 := hide hx7
      have HT7 := hide ht7
      clear hx7 ht7 H0
      go_wp2
      go_roundw
      case rel => exact ⟨i + 1, l', by go_num, by omega, by omega, HX7.out, HT7.out⟩
      case measure => simp [intOf]; omega
    · obtain rfl : i = m := by omega
      have d1 : decide ((i : Int) < (i : Int)) = false := by simp
      clear ha hi
      go_wp2
      go_ret
      exact ⟨rfl, HX.out.tbl, ⟨es, by rw [HM.out]; exact HT.out⟩, HX.out.below⟩
end Go.Proofs.YtkinpbhbgeiflaaDoor.Kn
/- block.Table's Find. -/
namespace Go.Proofs.YtkinpbhbgeiflaaDoor.Ko
set_option linter.unusedVariables false
set_option linter.unusedSimpArgs false
set_option maxRecDepth 100000
open Go.ChangeShapes Go.WideShapes Go.ChangeAt Go.RowKit
open Go.Proofs.YtkinpbhbgeiflaaDoor.Wu Go.Proofs.YtkinpbhbgeiflaaDoor.Sm Go.Proofs.YtkinpbhbgeiflaaDoor.Sh Go.Proofs.YtkinpbhbgeiflaaDoor.Ba Go.Proofs.YtkinpbhbgeiflaaDoor.Bp Go.Proofs.YtkinpbhbgeiflaaDoor.Ka Go.Proofs.YtkinpbhbgeiflaaDoor.Kb Go.Proofs.YtkinpbhbgeiflaaDoor.Kc Go.Proofs.YtkinpbhbgeiflaaDoor.Kd Go.Proofs.YtkinpbhbgeiflaaDoor.Ke Go.Proofs.YtkinpbhbgeiflaaDoor.Rk Go.Proofs.YtkinpbhbgeiflaaDoor.Rh Go.Proofs.YtkinpbhbgeiflaaDoor.Rw Go.Proofs.YtkinpbhbgeiflaaDoor.Rb1 Go.Proofs.YtkinpbhbgeiflaaDoor.Kg Go.Proofs.YtkinpbhbgeiflaaDoor.Kh Go.Proofs.YtkinpbhbgeiflaaDoor.Ki Go.Proofs.YtkinpbhbgeiflaaDoor.Kj Go.Proofs.YtkinpbhbgeiflaaDoor.Km Go.Proofs.YtkinpbhbgeiflaaDoor.Kk Go.Proofs.YtkinpbhbgeiflaaDoor.Kl
open Go.Proofs.YtkinpbhbgeiflaaDoor.Sn (Fst fst_keep)
open Go.Proofs.YtkinpbhbgeiflaaDoor.Sxa (Tbl tbl_keep)
open Go.Proofs.YtkinpbhbgeiflaaDoor.Su (cutL Cnt)
theorem wpList_look_at {P : Program} {w : World} {ops : Array Oper} {rest : List Oper} {o : Oper} {a : Act} {Q : Exit → Act → World → Prop} (hgd : o.guard = none) (t : TypeId) (m x : Operand) (c : Bool) (hop : o.op = Op.lookup t m x c) (v mv kv : Value) (hm : a.eval m = mv) (hk : a.eval x = kv)
    (hr : (Instr.lookup t mv kv c).run P w = .ok v w) (h : wpList P ops Q rest (a.put o.dst v) w) : wpList P ops Q (o :: rest) a w := by
  subst hm hk
  refine wpList_plain hgd fun K hK => ?_
  unfold Oper.wp
  simp [execOp, hop, hr, Result.andThen]
  exact hK _ _ h
/-- Is it the one that is looked for? -/
def isIt (m : Nat) (b : Blk) (p : Plc) : Bool := decide (p.n = m ∧ p.b = b)
/-- What is found among places. -/
def Fnd (ps : List Plc) (m : Nat) (b : Blk) (i : Int) (ok : Bool) : Prop := (ok = false ∧ i = 0 ∧ ps.find? (isIt m b) = none) ∨ ∃ p, ok = true ∧ i = (p.i : Int) ∧ ps.find? (isIt m b) = some p
def FindP (w : World) (ps : List Plc) (m : Nat) (b : Blk) (e : Ending) (w' : World) : Prop := ∃ i ok, e = .returned (.tuple #[.int .i64 i, .bool ok]) ∧ Fnd ps m b i ok ∧ Below w.heap.size w w'
theorem find_none (w : World) (T M N k x m c : Nat) (a : Option Addr) (es : List (Value × Value)) (G : Nat → List Plc) (b : Blk) (hT : w.heap[T]? = some (.cells #[.int .i64 (k : Int), .map (some M)] 166 (0, 0))) (ht : Tab w M N es G) (hx : x < 4294967296) (h0 : G x = []) :
    Calls Tryd.prog 51 #[.pointer (some ⟨T, 0, none⟩), .int .u32 (x : Int), .slice a m c] w (FindP w (G x) m b) := by
  obtain ⟨v, hlk, hv, -⟩ := ht.at hx
  have HP : Hid (FindP w (G x) m b (.returned (.tuple #[.int .i64 0, .bool false])) w) := hide ⟨0, false, rfl, .inl ⟨rfl, rfl, by rw [h0]; rfl⟩, Below.refl _ _⟩
  obtain ⟨av, cv, rfl, -⟩ := hv.form
  rw [h0] at hlk
  have hr := hlk w rfl
  have c1 : w.cell? ⟨T, 1, none⟩ = some (.map (some M)) := blk_cell hT rfl
  clear hlk hv ht hT h0
  simp only [List.length_nil] at hr
  go_enter Tryd.func51, Tryd.ntmps51
  go_wp2_with (refine wpList_look_at rfl 164 (.tmp 15) (.tmp 16) false rfl _ (.map (some M)) (.int .u32 (x : Int)) rfl rfl hr ?_)
  go_ret2
  exact HP.out
set_option maxHeartbeats 3200000 in
theorem find_some (w : World) (T M N k x m c : Nat) (a : Option Addr) (L : List Nat) (es : List (Value × Value)) (G : Nat → List Plc) (hT : w.heap[T]? = some (.cells #[.int .i64 (k : Int), .map (some M)] 166 (0, 0))) (ht : Tab w M N es G) (hx : x < 4294967296) (h0 : G x ≠ []) (hk : k ≤ 32) (hs : SrcB w a m L) (hc : m ≤ c) (hbig : m ≤ 140737488355328) (hTb : Tbl w) (hF : Fst w) (hgl : (G x).length ≤ 4096) :
    Calls Tryd.prog 51 #[.pointer (some ⟨T, 0, none⟩), .int .u32 (x : Int), .slice a m c] w (FindP w (G x) m ⟨x, cutL k (sha L)⟩) := by
  obtain ⟨v, hlk, hv, -⟩ := ht.at hx
  obtain ⟨av, cv, rfl, hlc, hcm, g, hag, hat⟩ := hv.form
  have hr := hlk w rfl
  obtain ⟨ps, hps⟩ : ∃ ps, ps = G x := ⟨_, rfl⟩
  rw [← hps] at hr hlc hag hat h0 hgl ⊢
  obtain ⟨n, hn⟩ : ∃ n, n = ps.length := ⟨_, rfl⟩
  rw [← hn] at hr hlc hag hgl
  have hn0 : 0 < n := by rw [hn]; exact List.length_pos_iff.2 h0
  have ha := hag hn0
  subst ha
  have Hat := hide hat
  have HN := hide hn
  have hCnt : Cnt (k : Int) k := by unfold Cnt; omega
  have HC := hide (cut_b k k a m c L w hCnt hs hc hTb hF hbig)
  have hwok : Blk.ok ⟨x, cutL k (sha L)⟩ := ⟨hx, Su.cutL_length k _ hk (sha_len L), all8_sub (all8_sha L) k (32 - k)⟩
  have Hbu := hide (built_blk x (cutL k (sha L)) hwok.2.1)
  obtain ⟨wb, hwb⟩ : ∃ wb : Blk, wb = ⟨x, cutL k (sha L)⟩ := ⟨_, rfl⟩
  rw [← hwb] at hwok Hbu ⊢
  have hw33 : (blkC .u32 wb).length = 33 := blkC_length hwok
  obtain ⟨X, hX⟩ : ∃ X, X = cutL k (sha L) := ⟨_, rfl⟩
  rw [← hX] at HC Hbu
  have c0 : w.cell? ⟨T, 0, none⟩ = some (.int .i64 (k : Int)) := blk_cell hT rfl
  have c1 : w.cell? ⟨T, 1, none⟩ = some (.map (some M)) := blk_cell hT rfl
  have e1 : ((n : Int) == 0) = false := by simp; omega
  have e2 : (n == 0) = false := by simp; omega
  clear hlk hv ht hT h0 hps hn hat hag hs hTb hF hwb hX
  go_enter Tryd.func51, Tryd.ntmps51
  go_wp2_with (refine wpList_look_at rfl 164 (.tmp 15) (.tmp 16) false rfl _ (.map (some M)) (.int .u32 (x : Int)) rfl rfl hr ?_)
  refine HC.out.mono ?_
  rintro e w1 ⟨rfl, hb1⟩
  have HB1 := hide hb1
  have HR := hide (fun i p (hp : ps[i]? = some p) (u : World) (hu : Below w.heap.size w u) => range_below (Hat.out i p hp).2 hu)
  clear hb1 HC c0 c1 hr
  go_wp2_with (first
    | (refine wpList_build_at rfl 116 _ rfl [(0, .int .u32 (x : Int)), (1, .agg (u8s X))] rfl _ Hbu.out ?_)
    | (refine wpList_store_all rfl 116 (.tmp 9) (.tmp 28) rfl w1.heap.size (blkC .u32 wb).toArray _ 116 rfl rfl (heap_last _ _) (by rw [List.size_toArray, hw33]; rfl) (by rw [List.size_toArray, hw33]; kernel_rfl) (all_oneCell_toArray (blkC_one _ _)) ?_))
  intro w2 H2 HG2
  refine of_hid ?_
  have HBr := hide (keepB (below_new w1 (.cells (blkC .u32 ⟨0, zeros 32⟩).toArray 116)) (Nat.le_refl _) HB1.out)
  have hw1 := HB1.out.size
  have HB2 := hide (belowG HBr.out HG2.out hw1 HBr.out.size)
  clear HB1 HBr HG2 Hbu
  have hwS : w.heap.size ≤ w1.heap.size := hw1
  generalize w1.heap.size = Wb at *
  go_wp2_with fail
  go_loopw [31] (fun j wr => ∃ i, j = .int .i64 ((i : Nat) : Int) ∧ i ≤ n ∧ (∀ p ∈ ps.take i, isIt m wb p = false) ∧ wr.heap[Wb]? = some (.cells (blkC .u32 wb).toArray 116 (0, 0)) ∧ Below w.heap.size w wr) (fun j _ => n - (intOf j).toNat)
  case atStart => exact ⟨0, rfl, Nat.zero_le _, by simp, H2.out, HB2.out⟩
  case round =>
    clear H2 HB2
    obtain ⟨i, rfl, hi, hno, hW, hB⟩ := hrel
    have HW := hide hW
    have HB := hide hB
    have HNo := hide hno
    clear hW hB hno
    by_cases hlt : i < n
    · obtain ⟨p, hp⟩ : ∃ p, ps[i]? = some p := ⟨ps[i]'(by rw [← HN.out]; exact hlt), by rw [List.getElem?_eq_getElem]⟩
      have hpok := (Hat.out i p hp).1
      have hr0 := HR.out i p hp wr HB.out
      have Hp := hide hp
      clear hp
      have d1 : decide ((i : Int) < (n : Int)) = true := by simpa using hlt
      have i1 : (0 : Int) ≤ (i : Int) := by omega
      have i2 : (i : Int) < (n : Int) := by omega
      have h35 : (plcC p).length = 35 := plcC_length hpok
      have h33 : (blkC .u32 p.b).length = 33 := blkC_length hpok
      go_wp2_with (first
        | (refine wpList_load_part rfl 169 (.tmp 33) rfl g (i * 35) (plcC p) rfl hr0 _ Tryd.underlying169 rfl (by rw [h35]; kernel_rfl) ?_)
        | (refine wpList_store_all rfl 169 (.tmp 11) (.tmp 34) rfl wr.heap.size (plcC p).toArray _ 169 rfl rfl (heap_last _ _) (by rw [List.size_toArray, h35]; rfl) (by rw [List.size_toArray, h35]; kernel_rfl) (all_oneCell_toArray (plcC_one _)) ?_))
      intro w5 H5 HG5
      refine of_hid ?_
      have HBr := hide (keepB (below_new wr (.cells (plcC ⟨0, 0, ⟨0, zeros 32⟩⟩).toArray 169)) (Nat.le_refl _) HB.out)
      have hwr := HB.out.size
      have hlW := heap_lt HW.out
      have HW5 := hide (keepG HG5.out (by omega) (heap_old HW.out _))
      have HB5 := hide (belowG HBr.out HG5.out hwr HBr.out.size)
      clear HW HB HBr HG5 hr0
      generalize wr.heap.size = B at *
      have c0 : w5.cell? ⟨B, 0, none⟩ = some (.int .i64 (p.i : Int)) := blk_cell H5.out rfl
      have c1 : w5.cell? ⟨B, 1, none⟩ = some (.int .i64 (p.n : Int)) := blk_cell H5.out rfl
      have hrb : w5.rangeAt B 2 (blkC .u32 p.b) := fun j v hv => blk_cell H5.out (by
        simp only [List.getElem?_toArray, plcC, Nat.add_comm 2 j, List.getElem?_cons_succ]
        exact hv)
      have hm : Tryd.prog.eqGuardType Tryd.prog.depth 116 = false := by kernel_rfl
      have HStep : Hid (isIt m wb p = false → ∀ q ∈ ps.take (i + 1), isIt m wb q = false) := hide (fun h q hq => by
        rw [List.take_add_one, Hp.out] at hq
        rcases List.mem_append.1 hq with hq | hq
        · exact HNo.out q hq
        · simp at hq; rw [hq]; exact h)
      by_cases hpn : p.n = m
      · have e3 : ((p.n : Int) == (m : Int)) = true := by simp [hpn]
        have e4 : (p.n == m) = true := by simp [hpn]
        have hq := fun u => blk_eq p.b wb hpok hwok u
        by_cases hpb : p.b = wb
        · have HP : Hid (∀ u, Below w.heap.size w u → FindP w ps m wb (.returned (.tuple #[.int .i64 (p.i : Int), .bool true])) u) := hide (fun u hu => ⟨p.i, true, rfl, .inr ⟨p, rfl, rfl, by
            rw [List.find?_eq_some_iff_append]
            refine ⟨by simp [isIt, hpn, hpb], ps.take i, ps.drop (i + 1), split_at ps i p Hp.out, fun q hq => by simp [HNo.out q hq]⟩⟩, hu⟩)
          rw [show decide (p.b = wb) = true by simpa using hpb] at hq
          clear hpn hpb HStep
          go_wp2_with (first
            | (refine wpList_load_partw (by rfl) 116 (.tmp 41) rfl B 2 (blkC .u32 p.b) rfl hrb _ Tryd.underlying116 rfl (by rw [h33]; kernel_rfl) ?_)
            | (refine wpList_load_allw (by rfl) 116 (.tmp 9) rfl Wb (blkC .u32 wb).toArray 116 (0, 0) rfl HW5.out _ Tryd.underlying116 rfl (by rw [List.size_toArray, hw33]; kernel_rfl) ?_))
          go_ret2
          exact HP.out _ HB5.out
        · have Hst := hide (HStep.out (by simp [isIt, hpb]))
          rw [show decide (p.b = wb) = false by simpa using hpb] at hq
          clear hpn hpb HStep
          go_wp2_with (first
            | (refine wpList_load_partw (by rfl) 116 (.tmp 41) rfl B 2 (blkC .u32 p.b) rfl hrb _ Tryd.underlying116 rfl (by rw [h33]; kernel_rfl) ?_)
            | (refine wpList_load_allw (by rfl) 116 (.tmp 9) rfl Wb (blkC .u32 wb).toArray 116 (0, 0) rfl HW5.out _ Tryd.underlying116 rfl (by rw [List.size_toArray, hw33]; kernel_rfl) ?_))
          go_roundw
          case rel => exact ⟨i + 1, by go_num, by omega, Hst.out, HW5.out, HB5.out⟩
          case measure => simp [intOf]; omega
      · have e3 : ((p.n : Int) == (m : Int)) = false := by simp; omega
        have e4 : (p.n == m) = false := by simpa using hpn
        have Hst := hide (HStep.out (by simp [isIt, hpn]))
        clear hpn HStep
        go_wp2
        go_roundw
        case rel => exact ⟨i + 1, by go_num, by omega, Hst.out, HW5.out, HB5.out⟩
        case measure => simp [intOf]; omega
    · obtain rfl : i = n := by omega
      have HP : Hid (∀ u, Below w.heap.size w u → FindP w ps m wb (.returned (.tuple #[.int .i64 0, .bool false])) u) := hide (fun u hu => ⟨0, false, rfl, .inl ⟨rfl, rfl, List.find?_eq_none.2 (fun p hp => by
        have := HNo.out p (by rw [List.take_of_length_le (by rw [← HN.out]; exact Nat.le_refl _)]; exact hp)
        simp [this])⟩, hu⟩)
      have d1 : decide ((i : Int) < (i : Int)) = false := by simp
      clear hi
      go_wp2
      go_ret2
      exact HP.out _ HB.out
end Go.Proofs.YtkinpbhbgeiflaaDoor.Ko
/- The reference's weak sum of a text. -/
namespace Go.Proofs.YtkinpbhbgeiflaaDoor.Wv
set_option linter.unusedVariables false
set_option linter.unusedSimpArgs false
set_option maxRecDepth 100000
open Go.ChangeShapes Go.WideShapes Go.ChangeAt Go.RowKit
open Go.Proofs.YtkinpbhbgeiflaaDoor.Wm Go.Proofs.YtkinpbhbgeiflaaDoor.Wu

theorem w64 (x : Int) (h : -9223372036854775808 ≤ x) (h' : x ≤ 9223372036854775807) : wrap64 x = x := by
  unfold wrap64
  omega
theorem step_b (b d c : Int) (h1 : 0 ≤ b) (h2 : b ≤ 4278190080) (h3 : 0 ≤ c) (h4 : c < 256) (h5 : 0 ≤ d) (h6 : d ≤ 4096) : wrap64 (b + wrap64 (d * c)) = b + d * c := by
  have h7 : 0 ≤ d * c := Int.mul_nonneg h5 h3
  have h8 : d * c ≤ 4096 * c := Int.mul_le_mul_of_nonneg_right h6 h3
  rw [w64 (d * c) (by omega) (by omega), w64 _ (by omega) (by omega)]

theorem ref_any (s : ByteArray) (w : World) (hs : s.size ≤ 4096) :
    Calls Tryd.prog 93 #[.string s] w fun e w' => e = .returned (.int .i64 (hi (nums s) * 65536 + lo (nums s))) ∧ w = w' := by
  have HB := hide (byt_nums s)
  have HL := hide (nums_length s)
  go_enter Tryd.func93, Tryd.ntmps93
  go_wp2_with fail
  go_loop [3, 4, 5] (fun a b i => ∃ k : Nat, k ≤ s.size ∧ i = .int .i64 k ∧ a = .int .i64 (sm ((nums s).take k)) ∧ b = .int .i64 (pw s.size ((nums s).take k))) (fun _ _ i => s.size - (intOf i).toNat)
  case atStart => exact ⟨0, Nat.zero_le _, rfl, rfl, rfl⟩
  case round =>
    obtain ⟨k, hk, rfl, rfl, rfl⟩ := hrel
    have h1 := sm_bd (byt_take HB.out k)
    have h2 := pw_bd4 (byt_take HB.out k) (s.size : Int) (by rw [List.length_take, HL.out]; omega) (by omega)
    have h3 : ((nums s).take k).length ≤ k := List.length_take_le _ _
    by_cases hlt : k < s.size
    · have h4 := byt_getD HB.out k
      have H5 := hide (nums_getD s k hlt)
      have H6 := hide (pw_take (nums s) (s.size : Int) k (by rw [HL.out]; exact hlt))
      have H7 := hide (sm_take (nums s) k (by rw [HL.out]; exact hlt))
      have h5 := h4
      rw [H5.out] at h5
      go_wp2
      go_round
      case rel =>
        refine ⟨k + 1, by omega, by go_num, ?_, ?_⟩
        · rw [H7.out, H5.out]
        · rw [step_b _ ((s.size : Int) - k) _ h2.1 h2.2 h5.1 h5.2 (by omega) (by omega), H6.out, H5.out]
      case measure => simp [intOf]; omega
    · have hkl : k = s.size := by omega
      subst hkl
      have H8 := hide (List.take_of_length_le (l := nums s) (i := s.size) (by rw [HL.out]; omega))
      go_wp2
      go_ret
      refine ⟨?_, rfl⟩
      show Ending.returned (.int .i64 (pw (s.size : Int) (List.take s.size (nums s)) % 65536 * 65536 + sm (List.take s.size (nums s)) % 65536)) = _
      rw [H8.out]
      unfold hi lo
      rw [HL.out]
theorem ref_nums (L : List Int) (w : World) (hL : Byt L) (hs : L.length ≤ 4096) :
    Calls Tryd.prog 93 #[.string (strOfNums L)] w fun e w' => e = .returned (.int .i64 (hi L * 65536 + lo L)) ∧ w = w' := by
  have h := ref_any (strOfNums L) w (by rw [strOfNums_size]; exact hs)
  rw [nums_strOfNums hL] at h
  exact h
theorem conv_none (P : Program) (a : Option Addr) (cap : Nat) (u : World) (src dst e : TypeId) (hs : P.underlying src = some (.slice e)) (he : P.underlying e = some (.int .u8)) (hd : P.underlying dst = some .string) :
    Sem.run P (convert src dst (.slice a 0 cap)) u = .ok (.string (strOfNums [])) u := by
  rw [run_convert_bytes_string u src dst e a 0 cap hs he hd]
  cases a with
  | none => simp [Conv.bytesToString]; rfl
  | some x => exact run_bytesToString u x 0 cap [] (by simp [loadCells]; rfl)
end Go.Proofs.YtkinpbhbgeiflaaDoor.Wv
/- A buffer of the call's own, nil at first: append to it. -/
namespace Go.Proofs.YtkinpbhbgeiflaaDoor.Bq
set_option linter.unusedVariables false
set_option linter.unusedSimpArgs false
set_option maxRecDepth 100000
open Go.RowKit
open Go.Proofs.YtkinpbhbgeiflaaDoor.Wu Go.Proofs.YtkinpbhbgeiflaaDoor.Sm Go.Proofs.YtkinpbhbgeiflaaDoor.Sh Go.Proofs.YtkinpbhbgeiflaaDoor.Ba Go.Proofs.YtkinpbhbgeiflaaDoor.Bp

/-- The slice v has the bytes L: nil, or a row in a block that isn't below N. -/
def Buf (w : World) (v : Value) (N : Nat) (L : List Nat) : Prop :=
  (v = .slice none 0 0 ∧ L = []) ∨ ∃ g cap, v = .slice (some ⟨g, 0, none⟩) L.length cap ∧ N ≤ g ∧ Dst w g L.length cap L
theorem Buf.all {w : World} {v : Value} {N : Nat} {L : List Nat} (h : Buf w v N L) : All8 L := by
  rcases h with ⟨_, rfl⟩ | ⟨g, cap, _, _, hd⟩
  · exact all8_nil
  · exact hd.all
theorem Buf.up {w w' : World} {v : Value} {N : Nat} {L : List Nat} (h : Buf w v N L) (hb : Below w.heap.size w w') : Buf w' v N L := by
  rcases h with h | ⟨g, cap, h1, h2, hd⟩
  · exact .inl h
  · exact .inr ⟨g, cap, h1, h2, hd.below hb hd.lt⟩
theorem Buf.form {w : World} {v : Value} {N : Nat} {L : List Nat} (h : Buf w v N L) : ∃ a cap, v = .slice a L.length cap ∧ SrcB w a L.length L ∧ L.length ≤ cap ∧ cap ≤ maxLen ∧ (a = none → L.length = 0 ∧ cap = 0) := by
  rcases h with ⟨rfl, rfl⟩ | ⟨g, cap, rfl, _, hd⟩
  · exact ⟨none, 0, rfl, SrcB.nil w none, Nat.le_refl _, Nat.zero_le _, fun _ => ⟨rfl, rfl⟩⟩
  · exact ⟨some ⟨g, 0, none⟩, cap, rfl, hd.src, hd.fit, hd.max, fun h => by cases h⟩
theorem append_nil_dst (w : World) (ty : TypeId) (ad : Addr) (m c : Nat) (L' : List Nat) (hm : 0 < m) (hs : SrcB w (some ad) m L') (hbig : m ≤ 70368744177664) :
    ∃ cap' w', (Builtin.append_ #[22, 22] ty #[.slice none 0 0, .slice (some ad) m c]).run Tryd.prog w = .ok (.slice (some ⟨w.heap.size, 0, none⟩) m cap') w' ∧ Dst w' w.heap.size m cap' L' ∧ Below w.heap.size w w' := by
  obtain ⟨i0, hi0, hz0, hz1, hz2⟩ := info_parts info_bs
  obtain ⟨hl, h8, b, off, ha, hcell⟩ := hs
  have hnews : ∀ j u, (b8 L')[j]? = some u → w.cell? (ad.add j) = some u := by
    intro j u hu
    obtain ⟨hj, rfl⟩ := b8_at hu
    have := ha hm
    injection this with this
    subst this
    rw [Addr.add_mid]
    exact hcell j (by omega)
  have hr := run_append_nil (P := Tryd.prog) w 22 ty 5 i0 (.int .u8 0) Tryd.underlying22 hi0 hz0 ad m c (b8 L') (by rw [b8_length, hl, hz1, Nat.mul_one]) hnews hm (by omega) (by rw [hz2]; omega)
  have hge := grownCap_ge w m 0 5
  have hle := grownCap_le_maxLen w m 0 5 (by unfold maxLen; omega)
  generalize grownCap w m 0 5 = q at hr hge hle
  have hzs : (Builtin.zeroCells (Value.int .u8 0).cells (q - m)).size = q - m := by rw [size_zeroCells]; simp [Value.cells]
  generalize Builtin.zeroCells (Value.int .u8 0).cells (q - m) = Z at hr hzs
  have hn := dst_new w.drew L' Z 5 (0, 0) rfl h8 (by rw [hl, hzs]; omega)
  rw [hl, hzs, show m + (q - m) = q by omega] at hn
  exact ⟨q, _, hr, hn, (Below.refl _ _).drew.alloc (Nat.le_refl _) _⟩
theorem append_buf (w : World) (ty : TypeId) (v : Value) (N : Nat) (L : List Nat) (A : Option Addr) (m c : Nat) (L' : List Nat) (hb : Buf w v N L) (hN : N ≤ w.heap.size) (hs : SrcB w A m L') (hc : A = none → m = 0) (hbig : L.length + m ≤ 70368744177664) (hm : 0 < m) :
    ∃ v' w', (Builtin.append_ #[22, 22] ty #[v, .slice A m c]).run Tryd.prog w = .ok v' w' ∧ Buf w' v' N (L ++ L') ∧ Below N w w' := by
  have hl := hs.1
  rcases hb with ⟨rfl, rfl⟩ | ⟨g, cap, rfl, hg, hd⟩
  · cases A with
    | none => have := hc rfl; omega
    | some ad =>
      obtain ⟨cap', w', hr, hd, hb⟩ := append_nil_dst w ty ad m c L' hm hs (by simpa using hbig)
      refine ⟨_, _, hr, .inr ⟨w.heap.size, cap', ?_, hN, ?_⟩, hb.mono hN⟩
      · rw [List.nil_append, hl]
      · rw [List.nil_append, hl]; exact hd
  · obtain ⟨g', cap', w', hr, hd', hG, hgg, -⟩ := append_dst w ty g L.length cap L A m c L' hd hs hbig hc
    refine ⟨_, _, hr, .inr ⟨g', cap', ?_, ?_, ?_⟩, ?_⟩
    · rw [List.length_append, hl]
    · rcases hgg with rfl | rfl <;> omega
    · rw [List.length_append, hl]; exact hd'
    · exact ⟨hG.os, hG.tape, hG.output, hG.size, fun k hk => hG.block k (by omega) (fun e => by injection e with e; omega)⟩
/-- append as a step of the walk. -/
theorem wpList_append_buf {w : World} {ops : Array Oper} {rest : List Oper} {o : Oper} {a : Act} {Q : Exit → Act → World → Prop} (hgd : o.guard = none) (s x : Operand)
    (ho : o.op = .call { callee := .builtin .append, args := #[s, x], argTypes := #[22, 22] }) (v : Value) (N : Nat) (L : List Nat) (A : Option Addr) (m c : Nat) (L' : List Nat)
    (hs : a.eval s = v) (hx : a.eval x = .slice A m c) (hb : Buf w v N L) (hN : N ≤ w.heap.size) (hsrc : SrcB w A m L') (hc : A = none → m = 0) (hbig : L.length + m ≤ 70368744177664) (hm : 0 < m)
    (h : ∀ v' w', Hid (Buf w' v' N (L ++ L')) → Hid (Below N w w') → Hid (wpList Tryd.prog ops Q rest (a.put o.dst v') w')) : wpList Tryd.prog ops Q (o :: rest) a w := by
  obtain ⟨v', w', hrun, h1, h2⟩ := append_buf w o.type v N L A m c L' hb hN hsrc hc hbig hm
  refine wpList_plain hgd fun K hK => ?_
  unfold Oper.wp
  simp [execOp, ho, resolve, invoke, builtin, hs, hx, hrun, Result.andThen]
  exact hK _ _ (h v' w' h1 h2)
theorem src_one {w : World} {B : Nat} {x : Nat} {T : TypeId} {f : Nat × Nat} (h : w.heap[B]? = some (.cells #[.int .u8 (x : Int)] T f)) (hx : x < 256) : SrcB w (some ⟨B, 0, none⟩) 1 [x] :=
  ⟨rfl, by intro z hz; simp only [List.mem_singleton] at hz; omega, B, 0, fun _ => rfl, fun i hi => by
    obtain rfl : i = 0 := by omega
    exact blk_cell h rfl⟩
end Go.Proofs.YtkinpbhbgeiflaaDoor.Bq
/- Texts of bytes; a slice of bytes as a text. -/
namespace Go.Proofs.YtkinpbhbgeiflaaDoor.Bs
set_option linter.unusedVariables false
set_option linter.unusedSimpArgs false
set_option maxRecDepth 100000
open Go.RowKit
open Go.Proofs.YtkinpbhbgeiflaaDoor.Wu Go.Proofs.YtkinpbhbgeiflaaDoor.Sm Go.Proofs.YtkinpbhbgeiflaaDoor.Sh Go.Proofs.YtkinpbhbgeiflaaDoor.Ba Go.Proofs.YtkinpbhbgeiflaaDoor.Bp Go.Proofs.YtkinpbhbgeiflaaDoor.Bq
def strN (L : List Nat) : ByteArray := strOfNums (L.map fun x : Nat => (x : Int))
theorem strN_size (A : List Nat) : (strN A).size = A.length := by unfold strN; rw [strOfNums_size]; simp
theorem conv_row {w : World} {B off n cap : Nat} {L : List Nat} (hl : L.length = n) (hc : ∀ i, i < n → w.cell? ⟨B, off + i, none⟩ = some (.int .u8 ((L.getD i 0 : Nat) : Int))) :
    Sem.run Tryd.prog (convert 22 9 (.slice (some ⟨B, off, none⟩) n cap)) w = .ok (.string (strN L)) w :=
  run_convert_bytes_arg w 22 5 Tryd.underlying22 Tryd.underlying5 B off n cap (L.map fun x : Nat => (x : Int)) (by simp [hl]) (fun i hi => by
    rw [hc i hi]; simp [List.getD, List.getElem?_eq_getElem (show i < L.length by omega)]) 9 Tryd.underlying9
theorem conv_none (a : Option Addr) (cap : Nat) (u : World) : Sem.run Tryd.prog (convert 22 9 (.slice a 0 cap)) u = .ok (.string (strN [])) u := by
  rw [run_convert_bytes_string u 22 9 5 a 0 cap Tryd.underlying22 Tryd.underlying5 Tryd.underlying9]
  cases a with
  | none => simp [Conv.bytesToString]; rfl
  | some x => exact run_bytesToString u x 0 cap [] (by simp [loadCells]; rfl)
theorem conv_src {w : World} {a : Option Addr} {n cap : Nat} {L : List Nat} (h : SrcB w a n L) : Sem.run Tryd.prog (convert 22 9 (.slice a n cap)) w = .ok (.string (strN L)) w := by
  obtain ⟨hl, h8, b, off, ha, hc⟩ := h
  by_cases h0 : n = 0
  · subst h0
    obtain rfl : L = [] := List.length_eq_zero_iff.1 hl
    exact conv_none a cap w
  · obtain rfl := ha (by omega)
    exact conv_row hl hc
end Go.Proofs.YtkinpbhbgeiflaaDoor.Bs
/- The reference's Piece and Make (layer 6). -/
namespace Go.Proofs.YtkinpbhbgeiflaaDoor.Kq
set_option linter.unusedVariables false
set_option linter.unusedSimpArgs false
set_option maxRecDepth 100000
open Go.ChangeShapes Go.WideShapes Go.ChangeAt Go.RowKit
open Go.Proofs.YtkinpbhbgeiflaaDoor.Wu Go.Proofs.YtkinpbhbgeiflaaDoor.Sm Go.Proofs.YtkinpbhbgeiflaaDoor.Sh Go.Proofs.YtkinpbhbgeiflaaDoor.Ba Go.Proofs.YtkinpbhbgeiflaaDoor.Bp Go.Proofs.YtkinpbhbgeiflaaDoor.Bs Go.Proofs.YtkinpbhbgeiflaaDoor.Ka Go.Proofs.YtkinpbhbgeiflaaDoor.Kb Go.Proofs.YtkinpbhbgeiflaaDoor.Kc Go.Proofs.YtkinpbhbgeiflaaDoor.Kd Go.Proofs.YtkinpbhbgeiflaaDoor.Ke Go.Proofs.YtkinpbhbgeiflaaDoor.Kf Go.Proofs.YtkinpbhbgeiflaaDoor.Rk Go.Proofs.YtkinpbhbgeiflaaDoor.Rh Go.Proofs.YtkinpbhbgeiflaaDoor.Rw Go.Proofs.YtkinpbhbgeiflaaDoor.Rb1 Go.Proofs.YtkinpbhbgeiflaaDoor.Kg
open Go.Proofs.YtkinpbhbgeiflaaDoor.Su (cutL Cnt)
attribute [local go_sem] kUpon_value kUpon_skip kUpon_enter
theorem strN_mid (L : List Nat) (i n : Nat) : (strN L).extract i (i + n) = strN ((L.drop i).take n) := by
  unfold strN strOfNums
  apply ByteArray.ext
  simp [ByteArray.data_extract, List.map_take, List.map_drop, List.extract_eq_take_drop]
theorem slice_str (L : List Nat) (i n : Nat) (h : i + n ≤ L.length) (u : World) : Sem.run Tryd.prog (Instr.slice 9 (.string (strN L)) (some (.int .i64 (i : Int))) (some (.int .i64 ((i : Int) + (n : Int)))) none) u = .ok (.string (strN ((L.drop i).take n))) u := by
  rw [run_slice_string u 9 (strN L) .i64 .i64 _ _ Tryd.underlying9 (by omega) (by omega) (by rw [strN_size]; omega)]
  rw [← strN_mid]
  congr 2
theorem slice_from (L : List Nat) (i : Nat) (h : i ≤ L.length) (u : World) : Sem.run Tryd.prog (Instr.slice 9 (.string (strN L)) (some (.int .i64 (i : Int))) none none) u = .ok (.string (strN (L.drop i))) u := by
  have e1 : (strN L).extract i (strN L).size = strN (L.drop i) := by
    have := strN_mid L i (L.length - i)
    rw [List.take_of_length_le (by rw [List.length_drop]; exact Nat.le_refl _), show i + (L.length - i) = (strN L).size by rw [strN_size]; omega] at this
    exact this
  have h1 := run_slice_string_l (P := Tryd.prog) u 9 (strN L) Tryd.underlying9 .i64 (i : Int) (by omega) (by rw [strN_size]; omega)
  rw [h1, Int.toNat_natCast, e1]
theorem refcut_b (n : Int) (k : Nat) (M : List Nat) (w : World) (hk : Cnt n k) (h8 : All8 M) (hbig : M.length ≤ 1000000) (hn : n ≤ 9223372036854775807) :
    Calls Tryd.prog 94 #[.int .i64 n, .string (strN M)] w fun e w' => e = .returned (.agg (u8s (cutL k (sha M)))) ∧ Below w.heap.size w w' := Sct.refCut_c n k M w hk h8 hbig hn
theorem refval_b (M : List Nat) (w : World) (h8 : All8 M) (hbig : M.length ≤ 4096) :
    Calls Tryd.prog 93 #[.string (strN M)] w fun e w' => e = .returned (.int .i64 ((wkN M : Nat) : Int)) ∧ w = w' := by
  have h := Wv.ref_nums (ints M) w (ints_byt h8) (by rw [ints_length]; exact hbig)
  rw [wkN_is]
  exact h
theorem load_ref {w : World} {S : Nat} {sz cut len : Int} {v : Value} (h : Sig4 61 w S sz cut len v) : Sem.run Tryd.prog (loadVar 61 ⟨S, 0, none⟩) w = .ok (sigV sz cut len v) w :=
  load_all 61 h _ Tryd.underlying61 rfl (by kernel_rfl)
end Go.Proofs.YtkinpbhbgeiflaaDoor.Kq
/- The reference's Find. -/
namespace Go.Proofs.YtkinpbhbgeiflaaDoor.Kt
set_option linter.unusedVariables false
set_option linter.unusedSimpArgs false
set_option maxRecDepth 100000
open Go.ChangeShapes Go.WideShapes Go.ChangeAt Go.RowKit
open Go.Proofs.YtkinpbhbgeiflaaDoor.Wu Go.Proofs.YtkinpbhbgeiflaaDoor.Sm Go.Proofs.YtkinpbhbgeiflaaDoor.Sh Go.Proofs.YtkinpbhbgeiflaaDoor.Ba Go.Proofs.YtkinpbhbgeiflaaDoor.Bp Go.Proofs.YtkinpbhbgeiflaaDoor.Bs Go.Proofs.YtkinpbhbgeiflaaDoor.Ka Go.Proofs.YtkinpbhbgeiflaaDoor.Kb Go.Proofs.YtkinpbhbgeiflaaDoor.Kc Go.Proofs.YtkinpbhbgeiflaaDoor.Kd Go.Proofs.YtkinpbhbgeiflaaDoor.Ke Go.Proofs.YtkinpbhbgeiflaaDoor.Kf Go.Proofs.YtkinpbhbgeiflaaDoor.Rk Go.Proofs.YtkinpbhbgeiflaaDoor.Rh Go.Proofs.YtkinpbhbgeiflaaDoor.Rx Go.Proofs.YtkinpbhbgeiflaaDoor.Rw Go.Proofs.YtkinpbhbgeiflaaDoor.Rb1 Go.Proofs.YtkinpbhbgeiflaaDoor.Kg Go.Proofs.YtkinpbhbgeiflaaDoor.Kk Go.Proofs.YtkinpbhbgeiflaaDoor.Kl Go.Proofs.YtkinpbhbgeiflaaDoor.Ko Go.Proofs.YtkinpbhbgeiflaaDoor.Kq
open Go.Proofs.YtkinpbhbgeiflaaDoor.Su (cutL Cnt)
attribute [local go_sem] kUpon_value kUpon_skip kUpon_enter
theorem plcs_at (s l : Nat) (bs : List Blk) (n i : Nat) (b : Blk) (hi : i < n) (hb : bs[i]? = some b) : (plcs s l bs n)[i]? = some ⟨i, min s (l - i * s), b⟩ := by
  unfold plcs
  rw [List.getElem?_map, List.getElem?_range hi]
  simp [List.getD, hb]
theorem plcs_length (s l : Nat) (bs : List Blk) (n : Nat) : (plcs s l bs n).length = n := by simp [plcs]
/-- What the reference's Find answers. -/
def RFind (w : World) (ps : List Plc) (t : Nat) (b : Blk) (e : Ending) (w' : World) : Prop :=
  (∃ z : Int, e = .returned (.int .i64 z) ∧ ((z = -1 ∧ ps.find? (isIt t b) = none) ∨ ∃ p, z = (p.i : Int) ∧ ps.find? (isIt t b) = some p)) ∧ Below w.heap.size w w'
set_option maxHeartbeats 3200000 in
theorem reffind_c (w : World) (s k l m c : Nat) (a : Option Addr) (bs : List Blk) (L : List Nat) (hb : IsBks .i64 w (.slice a m c) bs) (hm : bs.length = m) (h8 : All8 L) (hL : L.length ≤ 4096) (hk : k ≤ 32) (hs1 : 1 ≤ s) (hs : s ≤ 4096) (hl : l ≤ 16777216) (hmb : m ≤ 4096) (hin : ∀ i, i < m → i * s ≤ l) :
    Calls Tryd.prog 57 #[sigV s k l (.slice a m c), .string (strN L)] w (RFind w (plcs s l bs m) L.length ⟨wkN L, cutL k (sha L)⟩) := by
  obtain ⟨a1, c1, g, off, hv, hmc, hcm, ha, hat⟩ := hb.at
  rw [hm] at hv hmc ha
  injection hv with h1 h2 h3
  subst h1 h3
  have Hat := hide hat
  have HM := hide hm
  have HIn := hide hin
  have hCnt : Cnt (k : Int) k := by unfold Cnt; omega
  have HV := hide (fun u : World => refval_b L u h8 hL)
  have HC := hide (fun u : World => refcut_b k k L u hCnt h8 (by omega) (by omega))
  have hYl : (cutL k (sha L)).length = 32 := Su.cutL_length k _ hk (sha_len L)
  have hsz := strN_size L
  obtain ⟨t, ht⟩ : ∃ t, t = L.length := ⟨_, rfl⟩
  obtain ⟨W, hW⟩ : ∃ W, W = wkN L := ⟨_, rfl⟩
  obtain ⟨Y, hY⟩ : ∃ Y, Y = cutL k (sha L) := ⟨_, rfl⟩
  rw [← ht] at hsz ⊢
  rw [← hW] at HV ⊢
  rw [← hY] at HC hYl ⊢
  have htb : t ≤ 4096 := by omega
  generalize strN L = X at *
  obtain ⟨ps, hps⟩ : ∃ ps, ps = plcs s l bs m := ⟨_, rfl⟩
  have HA := hide (fun (i : Nat) (b : Blk) (hi : i < m) (hb : bs[i]? = some b) => plcs_at s l bs m i b hi hb)
  have hpl := plcs_length s l bs m
  rw [← hps] at HA hpl ⊢
  have HPl := hide hpl
  clear hat h2 hb hm hin hCnt h8 hL ht hW hY hps hpl
  unfold sigV
  have HS := hide (heap_last w (.cells #[.int .i64 (s : Int), .int .i64 (k : Int), .int .i64 (l : Int), .slice a m c] 61))
  have HB := hide (below_new w (.cells #[.int .i64 (s : Int), .int .i64 (k : Int), .int .i64 (l : Int), .slice a m c] 61))
  go_enter Tryd.func57, Tryd.ntmps57
  go_wp2_with fail
  generalize (w.alloc (.cells #[.int .i64 (s : Int), .int .i64 (k : Int), .int .i64 (l : Int), .slice a m c] 61)) = w1 at *
  go_loopw [5] (fun j wr => ∃ i, j = .int .i64 ((i : Nat) : Int) ∧ i ≤ m ∧ (∀ p ∈ ps.take i, isIt t ⟨W, Y⟩ p = false) ∧ wr.heap[w.heap.size]? = some (.cells #[.int .i64 (s : Int), .int .i64 (k : Int), .int .i64 (l : Int), .slice a m c] 61 (0, 0)) ∧ Below w.heap.size w wr) (fun j _ => m - (intOf j).toNat)
  case atStart => exact ⟨0, rfl, Nat.zero_le _, by simp, HS.out, HB.out⟩
  case round =>
    clear HS HB
    obtain ⟨i, rfl, hi, hno, hS, hB⟩ := hrel
    have HNo := hide hno
    have HS := hide hS
    have HB := hide hB
    clear hS hB hno
    obtain ⟨c0, c1, c2, c3⟩ := Sig4.cells (T := 61) HS.out
    by_cases hlt : i < m
    · obtain ⟨b, hb⟩ : ∃ b, bs[i]? = some b := ⟨bs[i]'(by rw [HM.out]; exact hlt), by rw [List.getElem?_eq_getElem]⟩
      obtain ⟨hbok, hr0⟩ := Hat.out i b hb
      have HP := hide (HA.out i b hlt hb)
      obtain ⟨bw, bx⟩ := b
      have HW0 := hide (fun u (hu : Below w.heap.size w u) => (show u.cell? ⟨g, off + i * 33, none⟩ = some (.int .i64 (bw : Int)) from range_below hr0 hu 0 _ rfl))
      have HR1 := hide (fun u (hu : Below w.heap.size w u) => (show u.rangeAt g (off + i * 33 + 1) (b8 bx) from fun j v hv => by
        have := range_below hr0 hu (j + 1) v (by simpa [blkC] using hv)
        rwa [show off + i * 33 + (j + 1) = off + i * 33 + 1 + j by omega] at this))
      have hbx : bx.length = 32 := hbok.2.1
      have ha1 := ha (by omega)
      subst ha1
      have hins := HIn.out i hlt
      clear hr0 hb ha
      obtain ⟨p, hp⟩ : ∃ p, p = i * s := ⟨_, rfl⟩
      rw [← hp] at HP hins
      have e0 : (i : Int) * (s : Int) = (p : Int) := by rw [hp]; simp
      clear hp
      have d1 : decide ((i : Int) < (m : Int)) = true := by simpa using hlt
      have i1 : (0 : Int) ≤ (i : Int) := by omega
      have i2 : (i : Int) < (m : Int) := by omega
      obtain ⟨q, hq⟩ : ∃ q, q = min s (l - p) := ⟨_, rfl⟩
      rw [← hq] at HP
      have hc : (decide ((l : Int) - (p : Int) < (s : Int)) = false ∧ s = q) ∨ (decide ((l : Int) - (p : Int) < (s : Int)) = true ∧ (l : Int) - (p : Int) = (q : Int) ∧ decide ((q : Int) < (s : Int)) = true ∧ decide (q < s) = true) := by
        by_cases h : (l : Int) - (p : Int) < (s : Int)
        · exact .inr ⟨by simpa using h, by omega, by simp; omega, by simp; omega⟩
        · exact .inl ⟨by simpa using h, by omega⟩
      clear hq
      have HStep : Hid (isIt t ⟨W, Y⟩ ⟨i, q, ⟨bw, bx⟩⟩ = false → ∀ r ∈ ps.take (i + 1), isIt t ⟨W, Y⟩ r = false) := hide (fun h r hr => by
        rw [List.take_add_one, HP.out] at hr
        rcases List.mem_append.1 hr with hr | hr
        · exact HNo.out r hr
        · simp at hr; rw [hr]; exact h)
      by_cases hqt : q = t
      · have e35 : ((q : Int) == (t : Int)) = true := by simp [hqt]
        have e35' : (q == t) = true := by simp [hqt]
        by_cases hw : bw = W
        · have e45 : ((bw : Int) == (W : Int)) = true := by simp [hw]
          have e45' : (bw == W) = true := by simp [hw]
          have hse : ∀ u, Sem.run Tryd.prog (Op.equalIn 10000 84 (.agg (b8 bx).toArray) (.agg (u8s Y))) u = .ok (decide (bx = Y)) u := fun u => Se.sum_eq bx Y hbx hYl u
          by_cases hx : bx = Y
          · have HFi : Hid (∀ u, Below w.heap.size w u → RFind w ps t ⟨W, Y⟩ (.returned (.int .i64 (i : Int))) u) := hide (fun u hu => ⟨⟨i, rfl, .inr ⟨⟨i, q, ⟨bw, bx⟩⟩, rfl, by
              rw [List.find?_eq_some_iff_append]
              refine ⟨by simp [isIt, hqt, hw, hx], ps.take i, ps.drop (i + 1), Km.split_at ps i _ HP.out, fun r hr => by simp [HNo.out r hr]⟩⟩⟩, hu⟩)
            rw [show decide (bx = Y) = true by simpa using hx] at hse
            clear HStep hqt hw hx HP
            rcases hc with ⟨d2, rfl⟩ | ⟨d2, e2, d3, d3'⟩
            all_goals
              go_wp2_with fail
              refine wp_region_keep (fun u => u.heap[w.heap.size]? = some (.cells #[.int .i64 (s : Int), .int .i64 (k : Int), .int .i64 (l : Int), .slice (some ⟨g, off, none⟩) m c] 61 (0, 0)) ∧ Below w.heap.size w u) (by kernel_rfl) (by kernel_rfl) ⟨HS.out, HB.out.drew⟩ ?_
              repeat (first
                | (refine keep_not (by rfl) ?_
                   simp only [Act.put, List.setIfInBounds_toArray, List.set_cons_zero, List.set_cons_succ])
                | (refine keep_step (v := .agg (b8 bx).toArray) (by rfl) (fun u K hS hK => kUpon_load_mid 84 (.tmp 52) rfl g (off + i * 33 + 1) _ rfl (run_loadVar_mid (P := Tryd.prog) u g (off + i * 33 + 1) 84 (b8 bx) _ (HR1.out u hS.2) Tryd.underlying84 rfl (by rw [b8_length, hbx]; kernel_rfl)) (hK _ hS)) ?_
                   simp only [Act.put, List.setIfInBounds_toArray, List.set_cons_zero, List.set_cons_succ])
                | (refine keep_step (v := ?_) (by rfl) (fun u K hS hK => ?_) ?_
                   rotate_left
                   · obtain ⟨c0, c1, c2, c3⟩ := Sig4.cells (T := 61) hS.1
                     have cw := HW0.out u hS.2
                     (go_simp; first
                       | (go_at_call 93; refine (HV.out _).mono ?_; rintro e u2 ⟨rfl, rfl⟩; exact hK _ hS)
                       | (go_at_call 94; refine (HC.out _).mono ?_; rintro e u2 ⟨rfl, hu⟩; exact hK _ ⟨below_blk hu (heap_lt hS.1) hS.1, keepB hu (Nat.le_refl _) hS.2⟩)
                       | (with_reducible exact hK _ hS))
                   simp only [Act.put, List.setIfInBounds_toArray, List.set_cons_zero, List.set_cons_succ]))
              refine keep_nil (fun w6 hS6 => ?_)
              have HS6 := hide hS6
              clear hS6 HS HB c0 c1 c2 c3
              go_wp2
              go_ret
              exact HFi.out _ HS6.out.2
          · have Hst := hide (HStep.out (by simp [isIt, hx]))
            rw [show decide (bx = Y) = false by simpa using hx] at hse
            clear HStep hqt hw hx HP
            rcases hc with ⟨d2, rfl⟩ | ⟨d2, e2, d3, d3'⟩
            all_goals
              go_wp2_with fail
              refine wp_region_keep (fun u => u.heap[w.heap.size]? = some (.cells #[.int .i64 (s : Int), .int .i64 (k : Int), .int .i64 (l : Int), .slice (some ⟨g, off, none⟩) m c] 61 (0, 0)) ∧ Below w.heap.size w u) (by kernel_rfl) (by kernel_rfl) ⟨HS.out, HB.out.drew⟩ ?_
              repeat (first
                | (refine keep_not (by rfl) ?_
                   simp only [Act.put, List.setIfInBounds_toArray, List.set_cons_zero, List.set_cons_succ])
                | (refine keep_step (v := .agg (b8 bx).toArray) (by rfl) (fun u K hS hK => kUpon_load_mid 84 (.tmp 52) rfl g (off + i * 33 + 1) _ rfl (run_loadVar_mid (P := Tryd.prog) u g (off + i * 33 + 1) 84 (b8 bx) _ (HR1.out u hS.2) Tryd.underlying84 rfl (by rw [b8_length, hbx]; kernel_rfl)) (hK _ hS)) ?_
                   simp only [Act.put, List.setIfInBounds_toArray, List.set_cons_zero, List.set_cons_succ])
                | (refine keep_step (v := ?_) (by rfl) (fun u K hS hK => ?_) ?_
                   rotate_left
                   · obtain ⟨c0, c1, c2, c3⟩ := Sig4.cells (T := 61) hS.1
                     have cw := HW0.out u hS.2
                     (go_simp; first
                       | (go_at_call 93; refine (HV.out _).mono ?_; rintro e u2 ⟨rfl, rfl⟩; exact hK _ hS)
                       | (go_at_call 94; refine (HC.out _).mono ?_; rintro e u2 ⟨rfl, hu⟩; exact hK _ ⟨below_blk hu (heap_lt hS.1) hS.1, keepB hu (Nat.le_refl _) hS.2⟩)
                       | (with_reducible exact hK _ hS))
                   simp only [Act.put, List.setIfInBounds_toArray, List.set_cons_zero, List.set_cons_succ]))
              refine keep_nil (fun w6 hS6 => ?_)
              have HS6 := hide hS6
              clear hS6 HS HB c0 c1 c2 c3
              go_wp2
              go_roundw
              case rel => exact ⟨i + 1, by go_num, by omega, Hst.out, HS6.out.1, HS6.out.2⟩
              case measure => simp [intOf]; omega
        · have e45 : ((bw : Int) == (W : Int)) = false := by simp; omega
          have e45' : (bw == W) = false := by simpa using hw
          have Hst := hide (HStep.out (by simp [isIt, hw]))
          clear HStep hqt hw HP
          rcases hc with ⟨d2, rfl⟩ | ⟨d2, e2, d3, d3'⟩
          all_goals
            go_wp2_with fail
            refine wp_region_keep (fun u => u.heap[w.heap.size]? = some (.cells #[.int .i64 (s : Int), .int .i64 (k : Int), .int .i64 (l : Int), .slice (some ⟨g, off, none⟩) m c] 61 (0, 0)) ∧ Below w.heap.size w u) (by kernel_rfl) (by kernel_rfl) ⟨HS.out, HB.out.drew⟩ ?_
            repeat (first
              | (refine keep_not (by rfl) ?_
                 simp only [Act.put, List.setIfInBounds_toArray, List.set_cons_zero, List.set_cons_succ])
              | (refine keep_step (v := .agg (b8 bx).toArray) (by rfl) (fun u K hS hK => kUpon_load_mid 84 (.tmp 52) rfl g (off + i * 33 + 1) _ rfl (run_loadVar_mid (P := Tryd.prog) u g (off + i * 33 + 1) 84 (b8 bx) _ (HR1.out u hS.2) Tryd.underlying84 rfl (by rw [b8_length, hbx]; kernel_rfl)) (hK _ hS)) ?_
                 simp only [Act.put, List.setIfInBounds_toArray, List.set_cons_zero, List.set_cons_succ])
              | (refine keep_step (v := ?_) (by rfl) (fun u K hS hK => ?_) ?_
                 rotate_left
                 · obtain ⟨c0, c1, c2, c3⟩ := Sig4.cells (T := 61) hS.1
                   have cw := HW0.out u hS.2
                   (go_simp; first
                     | (go_at_call 93; refine (HV.out _).mono ?_; rintro e u2 ⟨rfl, rfl⟩; exact hK _ hS)
                     | (go_at_call 94; refine (HC.out _).mono ?_; rintro e u2 ⟨rfl, hu⟩; exact hK _ ⟨below_blk hu (heap_lt hS.1) hS.1, keepB hu (Nat.le_refl _) hS.2⟩)
                     | (with_reducible exact hK _ hS))
                 simp only [Act.put, List.setIfInBounds_toArray, List.set_cons_zero, List.set_cons_succ]))
            refine keep_nil (fun w6 hS6 => ?_)
            have HS6 := hide hS6
            clear hS6 HS HB c0 c1 c2 c3
            go_wp2
            go_roundw
            case rel => exact ⟨i + 1, by go_num, by omega, Hst.out, HS6.out.1, HS6.out.2⟩
            case measure => simp [intOf]; omega
      · have e35 : ((q : Int) == (t : Int)) = false := by simp; omega
        have e35' : (q == t) = false := by simpa using hqt
        have Hst := hide (HStep.out (by simp [isIt, hqt]))
        clear HStep hqt HP
        rcases hc with ⟨d2, rfl⟩ | ⟨d2, e2, d3, d3'⟩
        all_goals
          go_wp2_with fail
          refine wp_region_keep (fun u => u.heap[w.heap.size]? = some (.cells #[.int .i64 (s : Int), .int .i64 (k : Int), .int .i64 (l : Int), .slice (some ⟨g, off, none⟩) m c] 61 (0, 0)) ∧ Below w.heap.size w u) (by kernel_rfl) (by kernel_rfl) ⟨HS.out, HB.out.drew⟩ ?_
          repeat (first
            | (refine keep_not (by rfl) ?_
               simp only [Act.put, List.setIfInBounds_toArray, List.set_cons_zero, List.set_cons_succ])
            | (refine keep_step (v := .agg (b8 bx).toArray) (by rfl) (fun u K hS hK => kUpon_load_mid 84 (.tmp 52) rfl g (off + i * 33 + 1) _ rfl (run_loadVar_mid (P := Tryd.prog) u g (off + i * 33 + 1) 84 (b8 bx) _ (HR1.out u hS.2) Tryd.underlying84 rfl (by rw [b8_length, hbx]; kernel_rfl)) (hK _ hS)) ?_
               simp only [Act.put, List.setIfInBounds_toArray, List.set_cons_zero, List.set_cons_succ])
            | (refine keep_step (v := ?_) (by rfl) (fun u K hS hK => ?_) ?_
               rotate_left
               · obtain ⟨c0, c1, c2, c3⟩ := Sig4.cells (T := 61) hS.1
                 have cw := HW0.out u hS.2
                 (go_simp; first
                   | (go_at_call 93; refine (HV.out _).mono ?_; rintro e u2 ⟨rfl, rfl⟩; exact hK _ hS)
                   | (go_at_call 94; refine (HC.out _).mono ?_; rintro e u2 ⟨rfl, hu⟩; exact hK _ ⟨below_blk hu (heap_lt hS.1) hS.1, keepB hu (Nat.le_refl _) hS.2⟩)
                   | (with_reducible exact hK _ hS))
               simp only [Act.put, List.setIfInBounds_toArray, List.set_cons_zero, List.set_cons_succ]))
          refine keep_nil (fun w6 hS6 => ?_)
          have HS6 := hide hS6
          clear hS6 HS HB c0 c1 c2 c3
          go_wp2
          go_roundw
          case rel => exact ⟨i + 1, by go_num, by omega, Hst.out, HS6.out.1, HS6.out.2⟩
          case measure => simp [intOf]; omega
    · obtain rfl : i = m := by omega
      have d1 : decide ((i : Int) < (i : Int)) = false := by simp
      have HR : Hid (∀ u, Below w.heap.size w u → RFind w ps t ⟨W, Y⟩ (.returned (.int .i64 (-1))) u) := hide (fun u hu => ⟨⟨-1, rfl, .inl ⟨rfl, List.find?_eq_none.2 (fun p hp => by
        have := HNo.out p (by rw [List.take_of_length_le (by rw [HPl.out]; exact Nat.le_refl _)]; exact hp)
        simp [this])⟩⟩, hu⟩)
      clear ha hi
      go_wp2
      go_ret
      exact HR.out _ HB.out
end Go.Proofs.YtkinpbhbgeiflaaDoor.Kt
/- Find, whatever stands at the key; a file's own blocks are found. -/
namespace Go.Proofs.YtkinpbhbgeiflaaDoor.Ku
set_option linter.unusedVariables false
set_option linter.unusedSimpArgs false
set_option maxRecDepth 100000
open Go.ChangeShapes Go.WideShapes Go.ChangeAt Go.RowKit
open Go.Proofs.YtkinpbhbgeiflaaDoor.Wu Go.Proofs.YtkinpbhbgeiflaaDoor.Sm Go.Proofs.YtkinpbhbgeiflaaDoor.Sh Go.Proofs.YtkinpbhbgeiflaaDoor.Ba Go.Proofs.YtkinpbhbgeiflaaDoor.Bp Go.Proofs.YtkinpbhbgeiflaaDoor.Bs Go.Proofs.YtkinpbhbgeiflaaDoor.Ka Go.Proofs.YtkinpbhbgeiflaaDoor.Kb Go.Proofs.YtkinpbhbgeiflaaDoor.Kc Go.Proofs.YtkinpbhbgeiflaaDoor.Kd Go.Proofs.YtkinpbhbgeiflaaDoor.Ke Go.Proofs.YtkinpbhbgeiflaaDoor.Kf Go.Proofs.YtkinpbhbgeiflaaDoor.Kg Go.Proofs.YtkinpbhbgeiflaaDoor.Kk Go.Proofs.YtkinpbhbgeiflaaDoor.Kl Go.Proofs.YtkinpbhbgeiflaaDoor.Ko Go.Proofs.YtkinpbhbgeiflaaDoor.Kq Go.Proofs.YtkinpbhbgeiflaaDoor.Kt
open Go.Proofs.YtkinpbhbgeiflaaDoor.Sn (Fst fst_keep)
open Go.Proofs.YtkinpbhbgeiflaaDoor.Sxa (Tbl tbl_keep)
open Go.Proofs.YtkinpbhbgeiflaaDoor.Su (cutL Cnt)
theorem find_any (w : World) (T M N k x m c : Nat) (a : Option Addr) (L : List Nat) (es : List (Value × Value)) (G : Nat → List Plc) (hT : w.heap[T]? = some (.cells #[.int .i64 (k : Int), .map (some M)] 166 (0, 0))) (ht : Tab w M N es G) (hx : x < 4294967296) (hk : k ≤ 32) (hs : SrcB w a m L) (hc : m ≤ c) (hbig : m ≤ 140737488355328) (hTb : Tbl w) (hF : Fst w) (hgl : (G x).length ≤ 4096) :
    Calls Tryd.prog 51 #[.pointer (some ⟨T, 0, none⟩), .int .u32 (x : Int), .slice a m c] w (FindP w (G x) m ⟨x, cutL k (sha L)⟩) := by
  by_cases h0 : G x = []
  · exact find_none w T M N k x m c a es G _ hT ht hx h0
  · exact find_some w T M N k x m c a L es G hT ht hx h0 hk hs hc hbig hTb hF hgl
theorem find_grp (s l : Nat) (bs : List Blk) (n x m : Nat) (Y : List Nat) : (grp s l bs n x).find? (isIt m ⟨x, Y⟩) = (plcs s l bs n).find? (isIt m ⟨x, Y⟩) := by
  unfold grp
  rw [List.find?_filter]
  congr 1
  funext p
  by_cases h : isIt m ⟨x, Y⟩ p = true
  · have : p.b.w = x := by
      simp only [isIt, decide_eq_true_eq] at h
      rw [h.2]
    simp [h, this]
  · simp only [Bool.not_eq_true] at h
    simp [h]
theorem own_found (D : List Nat) (s l k n i : Nat) (hi : i < n) : ∃ p, (plcs s l (mkB D s k n) n).find? (isIt (min s (l - i * s)) (blkOf k (piece D s i))) = some p ∧ p.i ≤ i ∧ (mkB D s k n)[p.i]? = some (blkOf k (piece D s i)) := by
  have hat : ∀ j, j < n → (mkB D s k n)[j]? = some (blkOf k (piece D s j)) := fun j hj => by
    unfold mkB
    rw [List.getElem?_map, List.getElem?_range hj]
    rfl
  have hp := plcs_at s l (mkB D s k n) n i _ hi (hat i hi)
  have hit : isIt (min s (l - i * s)) (blkOf k (piece D s i)) ⟨i, min s (l - i * s), blkOf k (piece D s i)⟩ = true := by simp [isIt]
  cases hf : (plcs s l (mkB D s k n) n).find? (isIt (min s (l - i * s)) (blkOf k (piece D s i))) with
  | none =>
    have := List.find?_eq_none.1 hf _ (List.mem_of_getElem? hp)
    exact absurd hit this
  | some p =>
    obtain ⟨h1, pre, suf, h2, h3⟩ := List.find?_eq_some_iff_append.1 hf
    have hj : (plcs s l (mkB D s k n) n)[pre.length]? = some p := by rw [h2]; simp
    have hjn : pre.length < n := by
      have := (List.getElem?_eq_some_iff.1 hj).1
      rwa [plcs_length] at this
    have hpj := plcs_at s l (mkB D s k n) n pre.length _ hjn (hat _ hjn)
    rw [hj] at hpj
    injection hpj with hpj
    subst hpj
    simp only [isIt, decide_eq_true_eq] at h1
    refine ⟨_, rfl, ?_, ?_⟩
    · show pre.length ≤ i
      by_cases h : pre.length ≤ i
      · exact h
      · exfalso
        rw [h2, List.getElem?_append_left (by omega)] at hp
        have := h3 _ (List.mem_of_getElem? hp)
        rw [hit] at this
        cases this
    · show (mkB D s k n)[pre.length]? = _
      rw [hat _ hjn, h1.2]
theorem fnd_det {ps : List Plc} {m : Nat} {b : Blk} {i : Int} {ok : Bool} {p : Plc} (h : Fnd ps m b i ok) (hp : ps.find? (isIt m b) = some p) : ok = true ∧ i = (p.i : Int) := by
  rcases h with ⟨_, _, h⟩ | ⟨q, h1, h2, h3⟩
  · rw [h] at hp; cases hp
  · rw [h3] at hp; injection hp with hp; subst hp; exact ⟨h1, h2⟩
theorem fnd_none {ps : List Plc} {m : Nat} {b : Blk} {i : Int} {ok : Bool} (h : Fnd ps m b i ok) (hp : ps.find? (isIt m b) = none) : ok = false ∧ i = 0 := by
  rcases h with ⟨h1, h2, _⟩ | ⟨q, _, _, h3⟩
  · exact ⟨h1, h2⟩
  · rw [h3] at hp; cases hp
end Go.Proofs.YtkinpbhbgeiflaaDoor.Ku
