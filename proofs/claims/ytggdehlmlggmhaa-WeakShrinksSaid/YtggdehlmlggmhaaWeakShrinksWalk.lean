/- WeakShrinks: the walk. -/
import Derived.Test.YtggdehlmlggmhaaWc
import Derived.Test.YtggdehlmlggmhaaWv
import Derived.Test.YtggdehlmlggmhaaWx
import Derived.Deep.RegionHeld3
import Derived.Deep.RegionWith
import Derived.Laws.BytesArg
import Derived.LoopN
namespace Go.Proofs.Ytggdehlmlggmhaa.WeakShrinksW
set_option linter.unusedVariables false
set_option linter.unusedSimpArgs false
open Go.ChangeShapes Go.WideShapes Go.ChangeAt Go.RowKit
open Go.Proofs.Ytggdehlmlggmhaa.Wm Go.Proofs.Ytggdehlmlggmhaa.Wu Go.Proofs.Ytggdehlmlggmhaa.Wk Go.Proofs.Ytggdehlmlggmhaa.Wc Go.Proofs.Ytggdehlmlggmhaa.Wv Go.Proofs.Ytggdehlmlggmhaa.Wx

theorem drop_cons (L : List Int) (k : Nat) (h : k < L.length) : L.drop k = L.getD k 0 :: L.drop (k + 1) := by
  rw [List.drop_eq_getElem_cons h]; simp [List.getD, h]

/-- The rest of the bytes as a text, whatever the capacity. -/
theorem conv_rest (P : Program) (src dst e : TypeId) (hs : P.underlying src = some (.slice e)) (he : P.underlying e = some (.int .u8)) (hd : P.underlying dst = some .string)
    (b off m k cap : Nat) (L : List Int) (u : World) (hL : L.length = m) (hk : k ≤ m) (hc : ∀ i, i < m → u.cell? ⟨b, off + i, none⟩ = some (.int .u8 (L.getD i 0))) :
    Sem.run P (convert src dst (.slice (some ⟨b, off + k, none⟩) (m - k) cap)) u = .ok (.string (strOfNums (L.drop k))) u := by
  refine run_convert_bytes_arg u src e hs he b (off + k) (m - k) cap (L.drop k) (by rw [List.length_drop]; omega) (fun i hi => ?_) dst hd
  rw [Nat.add_assoc, hc (k + i) (by omega)]
  simp [List.getD]

set_option maxHeartbeats 1600000 in
theorem some_walk (HR : RollsTrue) (b off len cap m : Nat) (L : List Int) (w : World) (hm : 0 < m) (hml : m ≤ len) (hm2 : m ≤ 300) (hmm : len ≤ 300 → m = len) (hmn : 300 < len → m = 300) (hlc : len ≤ cap) (hcap : cap ≤ 9223372036854775807)
    (hLl : L.length = m) (hL : Byt L) (hb : b < w.heap.size) (hc : ∀ i, i < m → w.cell? ⟨b, off + i, none⟩ = some (.int .u8 (L.getD i 0))) :
    Calls Try.prog 5 #[.slice (some ⟨b, off, none⟩) len cap] w fun e w' => e = .returned (.bool true) ∧ Below w.heap.size w w' := by
  have HC := hide hc
  have HL := hide hLl
  clear hc hLl
  have Hmm := hide hmm
  have Hmn := hide hmn
  clear hmm hmn
  have hif : (if (300 : Int) < (len : Int) then (300 : Int) else (len : Int)) = (m : Int) := by
    by_cases h : len ≤ 300
    · rw [Hmm.out h, if_neg (by omega)]
    · rw [Hmn.out (by omega), if_pos (by omega)]; rfl
  go_enter Try.func5, Try.ntmps5
  go_wp2_with fail
  refine (HR _).mono ?_
  rintro e w0 ⟨rfl, hb0⟩
  have HB0 := hide hb0
  have hb' : b < w0.heap.size := Nat.lt_of_lt_of_le hb hb0.size
  have HC0 := hide (fun i (hi : i < m) => (hb0.cell (p := ⟨b, off + i, none⟩) hb).trans (HC.out i hi))
  clear hb0 HC
  go_wp2_with fail
  refine (of_row b off cap m L _ HL.out hL (by omega) hb' HC0.out).mono ?_
  rintro e w1 ⟨rfl, hb1⟩
  have HB1 := hide (HB0.out.trans (hb1.mono HB0.out.size))
  have HC1 := hide (fun i (hi : i < m) => (hb1.cell (p := ⟨b, off + i, none⟩) hb').trans (HC0.out i hi))
  have hb1' : b < w1.heap.size := Nat.lt_of_lt_of_le hb' hb1.size
  clear hb1 HC0 HB0 hb'
  go_wp2_with fail
  have hst := heap_last w1 (.cells #[.int .i64 (m : Int), .int .u16 (lo L), .int .u16 (hi L)] 26)
  have Hst := hide hst
  clear hst
  go_loopw [17, 4, 5] (fun i _ _ wr => ∃ k : Nat, k ≤ m ∧ i = .int .i64 k ∧ wr.heap[w1.heap.size]? = some (.cells #[.int .i64 ((m : Int) - k), .int .u16 (lo (L.drop k)), .int .u16 (hi (L.drop k))] 26 (0, 0)) ∧ Below w1.heap.size w1 wr) (fun i _ _ _ => m - (intOf i).toNat)
  case atStart => exact ⟨0, Nat.zero_le _, rfl, by simpa using Hst.out, (Below.refl _ _).alloc (Nat.le_refl _) _⟩
  case round =>
    clear Hst
    obtain ⟨k, hk, rfl, h1, hbel⟩ := hrel
    have H1 := hide h1
    have HB := hide hbel
    have f1 := blk3 h1
    have z1 := heap_lt h1
    clear h1 hbel
    by_cases hlt : k < m
    · have hcx : wr.cell? ⟨b, off + k, none⟩ = some (.int .u8 (L.getD k 0)) := (HB.out.cell (p := ⟨b, off + k, none⟩) hb1').trans (HC1.out k hlt)
      have hx := byt_getD hL k
      have HT := hide (drop_cons L k (by rw [HL.out]; exact hlt))
      generalize L.getD k 0 = x at *
      rw [HT.out] at f1
      go_wp2_with fail
      refine (out_L (L.drop (k + 1)) ((m : Int) - k) x _ (by rw [List.length_drop, HL.out]; omega) (by rw [List.length_drop, HL.out]; omega) hx.1 hx.2).mono ?_
      rintro e w2 ⟨rfl, hb2⟩
      have H1' := hide (below_blk hb2 z1 H1.out)
      have f2 := blk3 H1'.out
      have HB2 := hide (HB.out.trans (hb2.mono (Nat.le_of_lt z1)))
      have H3 := hide (blk3_set H1'.out (.int .i64 ((m : Int) - k - 1)) (.int .u16 (lo (L.drop (k + 1)))) (.int .u16 (hi (L.drop (k + 1)))))
      have HB3 := hide (below_set3 HB2.out (Nat.le_refl w1.heap.size) (.int .i64 ((m : Int) - k - 1)) (.int .u16 (lo (L.drop (k + 1)))) (.int .u16 (hi (L.drop (k + 1)))))
      clear f1 hcx hb2 H1
      go_wp2_with fail
      clear f2
      have f3 := blk3 H3.out
      have hBB := HB3.out
      generalize (((w2.setCell ⟨w1.heap.size, 0, none⟩ (.int .i64 ((m : Int) - k - 1))).setCell ⟨w1.heap.size, 1, none⟩ (.int .u16 (lo (L.drop (k + 1))))).setCell ⟨w1.heap.size, 2, none⟩ (.int .u16 (hi (L.drop (k + 1))))) = W at *
      have hcM := fun (u : World) (hu : Below w1.heap.size w1 u) => fun i (hi : i < m) => (hu.cell (p := ⟨b, off + i, none⟩) hb1').trans (HC1.out i hi)
      have HcM := hide hcM
      clear hcM
      have hMB := byt_drop hL (k + 1)
      have hMl : (L.drop (k + 1)).length ≤ 300 := by rw [List.length_drop, HL.out]; omega
      have HcvA := hide (fun (u : World) (hu : Below w1.heap.size w1 u) => conv_rest Try.prog 22 9 5 Try.underlying22 Try.underlying5 Try.underlying9 b off m (k + 1) (cap - (k + 1)) L u HL.out (by omega) (HcM.out u hu))
      have HdE := hide (fun (h : m = k + 1) => show L.drop (k + 1) = [] from List.drop_eq_nil_of_le (by rw [HL.out]; omega))
      generalize hMM : L.drop (k + 1) = M at *
      have HMM := hide hMM
      clear hMM
      have lo1 := lo_nonneg M
      have lo2 := lo_lt M
      have hi1 := hi_nonneg M
      have hi2 := hi_lt M
      obtain ⟨e1, e2, e3, -⟩ := f3
      have hw64 : IntKind.i64.wrap (hi M * 65536 + lo M) = hi M * 65536 + lo M := IntWalk.i64_in _ (by omega)
      have hwk : IntKind.i64.wrap ((k : Int) + 1) = (k : Int) + 1 := IntWalk.i64_in _ (by omega)
      have hws : IntKind.i64.wrap ((m : Int) - k) = (m : Int) - k := IntWalk.i64_in _ (by omega)
      have hws1 : IntKind.i64.wrap ((m : Int) - k - 1) = (m : Int) - k - 1 := IntWalk.i64_in _ (by omega)
      have htk : ((k : Int) + 1).toNat = k + 1 := by omega
      have h0k : (0 : Int) ≤ (k : Int) + 1 := by omega
      have hkm : (k : Int) + 1 ≤ (m : Int) := by omega
      clear H1' HB2 HB3
      by_cases hce : cap = k + 1
      · have hmk : m = k + 1 := by omega
        have hM0 := HdE.out hmk
        subst hM0
        have hcv : ∀ u : World, Sem.run Try.prog (convert 22 9 (.slice (some ⟨b, off, none⟩) 0 0)) u = .ok (.string (strOfNums [])) u := fun u => conv_none Try.prog _ _ u _ _ _ Try.underlying22 Try.underlying5 Try.underlying9
        have hz0 : m - (k + 1) = 0 := by omega
        have hz1 : cap - (k + 1) = 0 := by omega
        have Hmk := hide hmk
        have hceT : (cap = k + 1) ↔ True := iff_true_intro hce
        have Hce := hide hce
        clear hmk hce
        go_region_held3 (fun u => u.cell? ⟨w1.heap.size, 0, none⟩ = some (.int .i64 ((m : Int) - k - 1)) ∧ u.cell? ⟨w1.heap.size, 1, none⟩ = some (.int .u16 (lo [])) ∧ u.cell? ⟨w1.heap.size, 2, none⟩ = some (.int .u16 (hi [])) ∧ Below w1.heap.size w1 u ∧ u.heap[w1.heap.size]? = some (.cells #[.int .i64 ((m : Int) - k - 1), .int .u16 (lo []), .int .u16 (hi [])] 26 (0, 0)))
          (first | exact ⟨e1, e2, e3, hBB.drew, H3.out⟩ | assumption | (apply keep3h <;> first | assumption | exact Nat.le_refl _))
          (first
            | (go_at_call 12; refine (value_any _ _ _ _ (by omega) (by omega) (by omega) (by omega)).mono ?_; rintro e u ⟨rfl, hu⟩)
            | (go_at_call 10; refine (size_any _ _ _ _).mono ?_; rintro e u ⟨rfl, hu⟩)
            | (go_at_call 13; refine (ref_nums [] _ hMB (by omega)).mono ?_; rintro e u ⟨rfl, rfl⟩))
        have hfin := three_both (w := w1) (by assumption)
        have Hf1 := hide hfin.1
        have Hf2 := hide hfin.2
        clear hfin
        go_wp2
        go_roundw
        case rel =>
          refine ⟨k + 1, by omega, by go_num, ?_, Hf1.out⟩
          rw [HMM.out, show ((m : Int) - ((k + 1 : Nat) : Int)) = (m : Int) - k - 1 by omega]
          exact Hf2.out
        case measure => simp [intOf]; omega
      · have hcv := HcvA.out
        go_region_held3 (fun u => u.cell? ⟨w1.heap.size, 0, none⟩ = some (.int .i64 ((m : Int) - k - 1)) ∧ u.cell? ⟨w1.heap.size, 1, none⟩ = some (.int .u16 (lo M)) ∧ u.cell? ⟨w1.heap.size, 2, none⟩ = some (.int .u16 (hi M)) ∧ Below w1.heap.size w1 u ∧ u.heap[w1.heap.size]? = some (.cells #[.int .i64 ((m : Int) - k - 1), .int .u16 (lo M), .int .u16 (hi M)] 26 (0, 0)))
          (first | exact ⟨e1, e2, e3, hBB.drew, H3.out⟩ | assumption | (apply keep3h <;> first | assumption | exact Nat.le_refl _))
          (first
            | (go_at_call 12; refine (value_any _ _ _ _ (by omega) (by omega) (by omega) (by omega)).mono ?_; rintro e u ⟨rfl, hu⟩)
            | (go_at_call 10; refine (size_any _ _ _ _).mono ?_; rintro e u ⟨rfl, hu⟩)
            | (go_at_call 13; refine (ref_nums M _ hMB (by omega)).mono ?_; rintro e u ⟨rfl, rfl⟩))
        have hfin := three_both (w := w1) (by assumption)
        have Hf1 := hide hfin.1
        have Hf2 := hide hfin.2
        clear hfin
        go_wp2
        go_roundw
        case rel =>
          refine ⟨k + 1, by omega, by go_num, ?_, Hf1.out⟩
          rw [HMM.out, show ((m : Int) - ((k + 1 : Nat) : Int)) = (m : Int) - k - 1 by omega]
          exact Hf2.out
        case measure => simp [intOf]; omega
    · have hkl : k = m := by omega
      subst hkl
      have hdr : L.drop k = [] := List.drop_eq_nil_of_le (by rw [HL.out]; exact Nat.le_refl _)
      rw [hdr, Int.sub_self] at f1
      obtain ⟨e1, e2, e3, -⟩ := f1
      have hBB := HB.out
      rw [lo_nil] at e2
      rw [hi_nil] at e3
      clear hdr
      go_wp2_with fail
      go_region_held3 (fun u => u.cell? ⟨w1.heap.size, 0, none⟩ = some (.int .i64 0) ∧ u.cell? ⟨w1.heap.size, 1, none⟩ = some (.int .u16 0) ∧ u.cell? ⟨w1.heap.size, 2, none⟩ = some (.int .u16 0) ∧ Below w1.heap.size w1 u)
        (first | exact ⟨e1, e2, e3, hBB.drew⟩ | assumption | (apply keep3 <;> first | assumption | exact Nat.le_refl _))
        (first
          | (go_at_call 15; refine (out_none _ _ _ _).mono ?_; rintro e u ⟨rfl, hu⟩)
          | (go_at_call 14; refine (roll_none _ _ _ _ _).mono ?_; rintro e u ⟨rfl, hu⟩))
      have hfin := HB1.out.trans ((three_below (by assumption) : Below w1.heap.size w1 u).mono HB1.out.size)
      go_wp2
      go_ret
      exact ⟨rfl, hfin⟩

theorem none_walk (HR : RollsTrue) (a : Option Addr) (cap : Nat) (w : World) (hcap : cap ≤ 9223372036854775807) :
    Calls Try.prog 5 #[.slice a 0 cap] w fun e w' => e = .returned (.bool true) ∧ Below w.heap.size w w' := by
  go_enter Try.func5, Try.ntmps5
  go_wp2_with fail
  refine (HR _).mono ?_
  rintro e w0 ⟨rfl, hb0⟩
  have HB0 := hide hb0
  clear hb0
  go_wp2_with fail
  refine (of_none _ _ _).mono ?_
  rintro e w1 ⟨rfl, hb1⟩
  have HB1 := hide (HB0.out.trans (hb1.mono HB0.out.size))
  clear hb1 HB0
  go_wp2_with fail
  refine wp_loop_rounds 1 ?_
  rw [rounds_succ]
  go_wp2_with fail
  have hBB := (Below.refl w1.heap.size w1).alloc (Nat.le_refl _) (.cells #[.int .i64 0, .int .u16 0, .int .u16 0] 26)
  have f1 := blk3 (heap_last w1 (.cells #[.int .i64 0, .int .u16 0, .int .u16 0] 26))
  generalize (w1.alloc (.cells #[.int .i64 0, .int .u16 0, .int .u16 0] 26)) = wr at *
  obtain ⟨e1, e2, e3, -⟩ := f1
  go_region_held3 (fun u => u.cell? ⟨w1.heap.size, 0, none⟩ = some (.int .i64 0) ∧ u.cell? ⟨w1.heap.size, 1, none⟩ = some (.int .u16 0) ∧ u.cell? ⟨w1.heap.size, 2, none⟩ = some (.int .u16 0) ∧ Below w1.heap.size w1 u)
    (first | exact ⟨e1, e2, e3, hBB.drew⟩ | assumption | (apply keep3 <;> first | assumption | exact Nat.le_refl _))
    (first
      | (go_at_call 15; refine (out_none _ _ _ _).mono ?_; rintro e u ⟨rfl, hu⟩)
      | (go_at_call 14; refine (roll_none _ _ _ _ _).mono ?_; rintro e u ⟨rfl, hu⟩))
  have hfin := HB1.out.trans ((three_below (by assumption) : Below w1.heap.size w1 u).mono HB1.out.size)
  go_wp2
  go_ret
  exact ⟨rfl, hfin⟩
end Go.Proofs.Ytggdehlmlggmhaa.WeakShrinksW
