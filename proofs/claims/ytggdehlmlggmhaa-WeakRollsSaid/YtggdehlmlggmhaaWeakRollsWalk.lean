/- WeakRolls: the walk. -/
import Derived.Test.YtggdehlmlggmhaaWc
import Derived.Test.YtggdehlmlggmhaaWv
import Derived.Test.YtggdehlmlggmhaaWx
import Derived.Deep.RegionHeld3
import Derived.Deep.RegionWith
import Derived.Laws.BytesArg
import Derived.LoopN
namespace Go.Proofs.Ytggdehlmlggmhaa.WeakRollsW
set_option linter.unusedVariables false
set_option linter.unusedSimpArgs false
open Go.ChangeShapes Go.WideShapes Go.ChangeAt Go.RowKit
open Go.Proofs.Ytggdehlmlggmhaa.Wm Go.Proofs.Ytggdehlmlggmhaa.Wu Go.Proofs.Ytggdehlmlggmhaa.Wk Go.Proofs.Ytggdehlmlggmhaa.Wc Go.Proofs.Ytggdehlmlggmhaa.Wv Go.Proofs.Ytggdehlmlggmhaa.Wx

/-- A window of the bytes as a text. -/
theorem conv_win (P : Program) (src dst e : TypeId) (hs : P.underlying src = some (.slice e)) (he : P.underlying e = some (.int .u8)) (hd : P.underlying dst = some .string)
    (b off m k n cap : Nat) (L : List Int) (u : World) (hL : L.length = m) (hk : k + n ≤ m) (hc : ∀ i, i < m → u.cell? ⟨b, off + i, none⟩ = some (.int .u8 (L.getD i 0))) :
    Sem.run P (convert src dst (.slice (some ⟨b, off + k, none⟩) n cap)) u = .ok (.string (strOfNums (win L k n))) u := by
  refine run_convert_bytes_arg u src e hs he b (off + k) n cap (win L k n) (win_length _ _ _ (by omega)) (fun i hi => ?_) dst hd
  rw [Nat.add_assoc, hc (k + i) (by omega)]
  simp [win, List.getD, List.getElem?_take_of_lt hi]

/-- A size that is none: at once. -/
theorem early_walk (HR : RollsTrue) (a : Option Addr) (len cap m : Nat) (size : Int) (w : World) (hml : m ≤ len) (hmm : len ≤ 300 → m = len) (hmn : 300 < len → m = 300) (hlc : len ≤ cap) (hcap : cap ≤ 9223372036854775807)
    (hs : size < 1 ∨ (m : Int) < size) :
    Calls Try.prog 4 #[.slice a len cap, .int .i64 size] w fun e w' => e = .returned (.bool true) ∧ Below w.heap.size w w' := by
  have Hmm := hide hmm
  have Hmn := hide hmn
  clear hmm hmn
  have hif : (if (300 : Int) < (len : Int) then (300 : Int) else (len : Int)) = (m : Int) := by
    by_cases h : len ≤ 300
    · rw [Hmm.out h, if_neg (by omega)]
    · rw [Hmn.out (by omega), if_pos (by omega)]; rfl
  by_cases h1 : size < 1
  · have hd : decide (size < 1) = true := by simpa using h1
    clear hs
    go_enter Try.func4, Try.ntmps4
    go_wp2_with fail
    refine (HR _).mono ?_
    rintro e w0 ⟨rfl, hb0⟩
    have HB0 := hide hb0
    clear hb0
    go_wp2
    go_ret
    exact ⟨rfl, HB0.out⟩
  · have h2 : (m : Int) < size := by omega
    have hd : decide (size < 1) = false := by simpa using h1
    clear hs
    go_enter Try.func4, Try.ntmps4
    go_wp2_with fail
    refine (HR _).mono ?_
    rintro e w0 ⟨rfl, hb0⟩
    have HB0 := hide hb0
    clear hb0
    go_wp2
    go_ret
    exact ⟨rfl, HB0.out⟩

set_option maxHeartbeats 3200000 in
theorem some_walk (HR : RollsTrue) (b off len cap m n : Nat) (L : List Int) (w : World) (hm : 0 < m) (hml : m ≤ len) (hm2 : m ≤ 300) (hmm : len ≤ 300 → m = len) (hmn : 300 < len → m = 300) (hlc : len ≤ cap) (hcap : cap ≤ 9223372036854775807)
    (hn : 1 ≤ n) (hnm : n ≤ m) (hLl : L.length = m) (hL : Byt L) (hb : b < w.heap.size) (hc : ∀ i, i < m → w.cell? ⟨b, off + i, none⟩ = some (.int .u8 (L.getD i 0))) :
    Calls Try.prog 4 #[.slice (some ⟨b, off, none⟩) len cap, .int .i64 (n : Int)] w fun e w' => e = .returned (.bool true) ∧ Below w.heap.size w w' := by
  have HC := hide hc
  have HL := hide hLl
  clear hc hLl
  have Hmm := hide hmm
  have Hmn := hide hmn
  clear hmm hmn
  have hif : (if (300 : Int) < (len : Int) then (300 : Int) else (len : Int)) = (m : Int) := by
    by_cases h : len ≤ 300
    · rw [Hmm.out h, if_neg (by omega)]
    · rw [Hmn.out (by omega), if_pos (by omega)]; rfl
  have hd1 : decide ((n : Int) < 1) = false := by simp; omega
  have hd2 : decide (m < n) = false := by simp; omega
  go_enter Try.func4, Try.ntmps4
  go_wp2_with fail
  refine (HR _).mono ?_
  rintro e w0 ⟨rfl, hb0⟩
  have HB0 := hide hb0
  have hb' : b < w0.heap.size := Nat.lt_of_lt_of_le hb hb0.size
  have HC0 := hide (fun i (hi : i < m) => (hb0.cell (p := ⟨b, off + i, none⟩) hb).trans (HC.out i hi))
  clear hb0 HC
  go_wp2_with fail
  refine (of_row b off cap n (L.take n) _ (by rw [List.length_take, HL.out]; omega) (byt_take hL n) (by omega) hb' (fun i hi => by rw [HC0.out i (by omega)]; simp [List.getD, List.getElem?_take_of_lt hi])).mono ?_
  rintro e w1 ⟨rfl, hb1⟩
  have HB1 := hide (HB0.out.trans (hb1.mono HB0.out.size))
  have HC1 := hide (fun i (hi : i < m) => (hb1.cell (p := ⟨b, off + i, none⟩) hb').trans (HC0.out i hi))
  have hb1' : b < w1.heap.size := Nat.lt_of_lt_of_le hb' hb1.size
  clear hb1 HC0 HB0 hb' hd1 hd2
  go_wp2_with fail
  have Hst := hide (heap_last w1 (.cells #[.int .i64 (n : Int), .int .u16 (lo (L.take n)), .int .u16 (hi (L.take n))] 26))
  go_loopw [6] (fun i wr => ∃ k : Nat, k + n ≤ m ∧ i = .int .i64 k ∧ wr.heap[w1.heap.size]? = some (.cells #[.int .i64 (n : Int), .int .u16 (lo (win L k n)), .int .u16 (hi (win L k n))] 26 (0, 0)) ∧ Below w1.heap.size w1 wr) (fun i _ => m - (intOf i).toNat)
  case atStart => exact ⟨0, by omega, rfl, by rw [win_zero]; exact Hst.out, (Below.refl _ _).alloc (Nat.le_refl _) _⟩
  case round =>
    clear Hst
    obtain ⟨k, hk, rfl, h1, hbel⟩ := hrel
    have H1 := hide h1
    have HB := hide hbel
    have f1 := blk3 h1
    have z1 := heap_lt h1
    clear h1 hbel
    by_cases hlt : k + n < m
    · have hcx : wr.cell? ⟨b, off + k, none⟩ = some (.int .u8 (L.getD k 0)) := (HB.out.cell (p := ⟨b, off + k, none⟩) hb1').trans (HC1.out k (by omega))
      have hcy : wr.cell? ⟨b, off + (k + n), none⟩ = some (.int .u8 (L.getD (k + n) 0)) := (HB.out.cell (p := ⟨b, off + (k + n), none⟩) hb1').trans (HC1.out (k + n) hlt)
      have hx := byt_getD hL k
      have hy := byt_getD hL (k + n)
      have HT := hide (win_cons L k n (by rw [HL.out]; omega) (by omega))
      have HT2 := hide (show win L (k + 1) (n - 1) ++ [L.getD (k + n) 0] = win L (k + 1) n by
        have := win_snoc L (k + 1) (n - 1) (by rw [HL.out]; omega)
        rwa [show k + 1 + (n - 1) = k + n by omega, show n - 1 + 1 = n by omega] at this)
      have hlW : (win L (k + 1) (n - 1)).length = n - 1 := win_length _ _ _ (by rw [HL.out]; omega)
      have HlW := hide hlW
      clear hlW
      have hki : (k : Int) + (n : Int) < (m : Int) := by omega
      go_wp2_with fail
      rw [HT.out] at f1
      generalize L.getD k 0 = x at *
      generalize L.getD (k + n) 0 = y at *
      generalize hV : win L (k + 1) (n - 1) = V at *
      clear hV
      have hwk : IntKind.i64.wrap ((k : Int) + (n : Int)) = (k : Int) + (n : Int) := IntWalk.i64_in _ (by omega)
      have htk : ((k : Int) + (n : Int)).toNat = k + n := by omega
      have h0k : (0 : Int) ≤ (k : Int) + (n : Int) := by omega
      have hk1 : (k : Int) < (m : Int) := by omega
      have hk0 : (0 : Int) ≤ (k : Int) := by omega
      go_region_with (first
        | (go_at_call 14; refine (roll_L V n x y _ (by rw [HlW.out]; omega) (by rw [HlW.out]; omega) hx.1 hx.2 hy.1 hy.2).mono ?_; rintro e w2 ⟨rfl, hb2⟩; have H1' := hide (below_blk hb2 z1 H1.out); have f2 := blk3 H1'.out; have HB2 := hide (HB.out.drew.trans (hb2.mono (Nat.le_of_lt z1))); clear hb2 f1 hcx hcy))
      all_goals
        rw [HT2.out]
        have H3 := hide (blk3_set H1'.out (.int .i64 (n : Int)) (.int .u16 (lo (win L (k + 1) n))) (.int .u16 (hi (win L (k + 1) n))))
        have HB3 := hide (below_set3 HB2.out (Nat.le_refl w1.heap.size) (.int .i64 (n : Int)) (.int .u16 (lo (win L (k + 1) n))) (.int .u16 (hi (win L (k + 1) n))))
        have hMB : Byt (win L (k + 1) n) := byt_take (byt_drop hL _) _
        have hMl : (win L (k + 1) n).length ≤ 4096 := by rw [win_length _ _ _ (by rw [HL.out]; omega)]; omega
        have hcv := fun (u : World) (hu : Below w1.heap.size w1 u) => conv_win Try.prog 22 9 5 Try.underlying22 Try.underlying5 Try.underlying9 b off m (k + 1) n (cap - (k + 1)) L u HL.out (by omega) (fun i (hi : i < m) => (hu.cell (p := ⟨b, off + i, none⟩) hb1').trans (HC1.out i hi))
        have Hcv := hide hcv
        clear hcv H1' HB2 hwk htk h0k
        go_wp2_with fail
        clear f2
        have f3 := blk3 H3.out
        have hBB := HB3.out
        generalize (((w2.setCell ⟨w1.heap.size, 0, none⟩ (.int .i64 (n : Int))).setCell ⟨w1.heap.size, 1, none⟩ (.int .u16 (lo (win L (k + 1) n)))).setCell ⟨w1.heap.size, 2, none⟩ (.int .u16 (hi (win L (k + 1) n)))) = W at *
        generalize hMM : win L (k + 1) n = M at *
        have HMM := hide hMM
        clear hMM
        have hcv := Hcv.out
        have lo1 := lo_nonneg M
        have lo2 := lo_lt M
        have hi1 := hi_nonneg M
        have hi2 := hi_lt M
        obtain ⟨e1, e2, e3, -⟩ := f3
        have hw64 : IntKind.i64.wrap (hi M * 65536 + lo M) = hi M * 65536 + lo M := IntWalk.i64_in _ (by omega)
        have hwk1 : IntKind.i64.wrap ((k : Int) + 1) = (k : Int) + 1 := IntWalk.i64_in _ (by omega)
        have hwk2 : IntKind.i64.wrap ((k : Int) + 1 + (n : Int)) = (k : Int) + 1 + (n : Int) := IntWalk.i64_in _ (by omega)
        have htk1 : ((k : Int) + 1).toNat = k + 1 := by omega
        have htk2 : ((k : Int) + 1 + (n : Int)).toNat = k + 1 + n := by omega
        have h0k1 : (0 : Int) ≤ (k : Int) + 1 := by omega
        have hkm1 : (k : Int) + 1 ≤ (k : Int) + 1 + (n : Int) := by omega
        have hkm2 : (k : Int) + 1 + (n : Int) ≤ (cap : Int) := by omega
        have hce : ¬ cap = k + 1 := by omega
        go_region_held3 (fun u => u.cell? ⟨w1.heap.size, 0, none⟩ = some (.int .i64 (n : Int)) ∧ u.cell? ⟨w1.heap.size, 1, none⟩ = some (.int .u16 (lo M)) ∧ u.cell? ⟨w1.heap.size, 2, none⟩ = some (.int .u16 (hi M)) ∧ Below w1.heap.size w1 u ∧ u.heap[w1.heap.size]? = some (.cells #[.int .i64 (n : Int), .int .u16 (lo M), .int .u16 (hi M)] 26 (0, 0)))
          (first | exact ⟨e1, e2, e3, hBB.drew, H3.out⟩ | assumption | (apply keep3h <;> first | assumption | exact Nat.le_refl _))
          (first
            | (go_at_call 12; refine (value_any _ _ _ _ (by omega) (by omega) (by omega) (by omega)).mono ?_; rintro e u ⟨rfl, hu⟩)
            | (go_at_call 10; refine (size_any _ _ _ _).mono ?_; rintro e u ⟨rfl, hu⟩)
            | (go_at_call 13; refine (ref_nums M _ hMB hMl).mono ?_; rintro e u ⟨rfl, rfl⟩))
        have hfin := three_both (w := w1) (by assumption)
        have Hf1 := hide hfin.1
        have Hf2 := hide hfin.2
        clear hfin hw64 hwk1 hwk2 htk1 htk2 hcv e1 e2 e3
        go_wp2
        go_roundw
        case rel => exact ⟨k + 1, by omega, by go_num, by rw [HMM.out]; exact Hf2.out, Hf1.out⟩
        case measure => simp [intOf]; omega
    · have hfin := HB1.out.trans (HB.out.mono HB1.out.size)
      have Hf := hide hfin
      clear hfin
      have hki : ¬ (k : Int) + (n : Int) < (m : Int) := by omega
      go_wp2
      go_ret
      exact ⟨rfl, Hf.out⟩
end Go.Proofs.Ytggdehlmlggmhaa.WeakRollsW
