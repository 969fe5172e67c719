/- WeakRound: the walk. -/
import Derived.Test.YtggdehlmlggmhabWc
import Derived.Test.YtggdehlmlggmhabWx
import Derived.Deep.RegionHeld3
import Derived.Deep.RegionWith
import Derived.LoopN
namespace Go.Proofs.Ytggdehlmlggmhab.WeakRoundW
set_option linter.unusedVariables false
set_option linter.unusedSimpArgs false
open Go.ChangeShapes Go.WideShapes Go.ChangeAt Go.RowKit
open Go.Proofs.Ytggdehlmlggmhab.Wm Go.Proofs.Ytggdehlmlggmhab.Wu Go.Proofs.Ytggdehlmlggmhab.Wk Go.Proofs.Ytggdehlmlggmhab.Wc Go.Proofs.Ytggdehlmlggmhab.Wx

theorem twice_low (L : List Int) (k : Nat) (h : k < L.length) : (L ++ L).getD k 0 = L.getD k 0 := by
  simp [List.getD, List.getElem?_append_left h]
theorem twice_mod (L : List Int) (k m : Nat) (hm : L.length = m) (h : k < 2 * m) (h0 : 0 < m) : (L ++ L).getD k 0 = L.getD (k % m) 0 := by
  by_cases hk : k < m
  · rw [Nat.mod_eq_of_lt hk, twice_low L k (by omega)]
  · have e : k % m = k - m := by rw [Nat.mod_eq_sub_mod (by omega), Nat.mod_eq_of_lt (by omega)]
    rw [e]
    simp [List.getD, List.getElem?_append_right (show L.length ≤ k by omega), hm]
theorem win_twice (L : List Int) (m n : Nat) (hm : L.length = m) (hn : n ≤ m) : win (L ++ L) m n = L.take n := by
  unfold win
  rw [List.drop_append_of_le_length (by omega), List.drop_eq_nil_of_le (by omega), List.nil_append]
theorem win_zero2 (L : List Int) (n : Nat) (hn : n ≤ L.length) : win (L ++ L) 0 n = L.take n := by
  rw [win_zero, List.take_append_of_le_length hn]

/-- A size that is none: at once. -/
theorem early_walk (HR : RollsTrue) (a : Option Addr) (len cap m : Nat) (size : Int) (w : World) (hml : m ≤ len) (hmm : len ≤ 200 → m = len) (hmn : 200 < len → m = 200) (hlc : len ≤ cap) (hcap : cap ≤ 9223372036854775807)
    (hs : size < 1 ∨ (m : Int) < size) :
    Calls Try.prog 3 #[.slice a len cap, .int .i64 size] w fun e w' => e = .returned (.bool true) ∧ Below w.heap.size w w' := by
  have Hmm := hide hmm
  have Hmn := hide hmn
  clear hmm hmn
  have hif : (if (200 : Int) < (len : Int) then (200 : Int) else (len : Int)) = (m : Int) := by
    by_cases h : len ≤ 200
    · rw [Hmm.out h, if_neg (by omega)]
    · rw [Hmn.out (by omega), if_pos (by omega)]; rfl
  by_cases h1 : size < 1
  · have hd : decide (size < 1) = true := by simpa using h1
    clear hs
    go_enter Try.func3, Try.ntmps3
    go_wp2_with fail
    refine (HR _).mono ?_
    rintro e w0 ⟨rfl, hb0⟩
    have HB0 := hide hb0
    clear hb0
    go_wp2
    go_ret
    exact ⟨rfl, HB0.out⟩
  · have h2 : (m : Int) < size := by omega
    have hd : decide (size < 1) = false := by simpa using h1
    clear hs
    go_enter Try.func3, Try.ntmps3
    go_wp2_with fail
    refine (HR _).mono ?_
    rintro e w0 ⟨rfl, hb0⟩
    have HB0 := hide hb0
    clear hb0
    go_wp2
    go_ret
    exact ⟨rfl, HB0.out⟩

set_option maxHeartbeats 3200000 in
theorem some_walk (HR : RollsTrue) (b off len cap m n : Nat) (L : List Int) (w : World) (hm : 0 < m) (hml : m ≤ len) (hm2 : m ≤ 200) (hmm : len ≤ 200 → m = len) (hmn : 200 < len → m = 200) (hlc : len ≤ cap) (hcap : cap ≤ 9223372036854775807)
    (hn : 1 ≤ n) (hnm : n ≤ m) (hLl : L.length = m) (hL : Byt L) (hb : b < w.heap.size) (hc : ∀ i, i < m → w.cell? ⟨b, off + i, none⟩ = some (.int .u8 (L.getD i 0))) :
    Calls Try.prog 3 #[.slice (some ⟨b, off, none⟩) len cap, .int .i64 (n : Int)] w fun e w' => e = .returned (.bool true) ∧ Below w.heap.size w w' := by
  have HC := hide hc
  have HL := hide hLl
  clear hc hLl
  have Hmm := hide hmm
  have Hmn := hide hmn
  clear hmm hmn
  have hif : (if (200 : Int) < (len : Int) then (200 : Int) else (len : Int)) = (m : Int) := by
    by_cases h : len ≤ 200
    · rw [Hmm.out h, if_neg (by omega)]
    · rw [Hmn.out (by omega), if_pos (by omega)]; rfl
  have hd1 : decide ((n : Int) < 1) = false := by simp; omega
  have hd2 : decide (m < n) = false := by simp; omega
  have HD : Hid ((L ++ L).length = 2 * m) := by unfold Hid; rw [List.length_append, HL.out]; omega
  have hDB : Byt (L ++ L) := fun z hz => (List.mem_append.1 hz).elim (hL z) (hL z)
  go_enter Try.func3, Try.ntmps3
  go_wp2_with fail
  refine (HR _).mono ?_
  rintro e w0 ⟨rfl, hb0⟩
  have HB0 := hide hb0
  have hb' : b < w0.heap.size := Nat.lt_of_lt_of_le hb hb0.size
  have HC0 := hide (fun i (hi : i < m) => (hb0.cell (p := ⟨b, off + i, none⟩) hb).trans (HC.out i hi))
  clear hb0 HC
  go_wp2_with fail
  refine (of_row b off cap n (L.take n) _ (by rw [List.length_take, HL.out]; omega) (byt_take hL n) (by omega) hb' (fun i hi => by rw [HC0.out i (by omega)]; simp [List.getD, List.getElem?_take_of_lt hi])).mono ?_
  rintro e w1 ⟨rfl, hb1⟩
  have HB1 := hide (HB0.out.trans (hb1.mono HB0.out.size))
  have HC1 := hide (fun i (hi : i < m) => (hb1.cell (p := ⟨b, off + i, none⟩) hb').trans (HC0.out i hi))
  have hb1' : b < w1.heap.size := Nat.lt_of_lt_of_le hb' hb1.size
  clear hb1 HC0 HB0 hb' hd1 hd2
  go_wp2_with fail
  have Hst := hide (heap_last w1 (.cells #[.int .i64 (n : Int), .int .u16 (lo (L.take n)), .int .u16 (hi (L.take n))] 26))
  go_loopw [28, 6] (fun i _ wr => ∃ k : Nat, k ≤ m ∧ i = .int .i64 k ∧ wr.heap[w1.heap.size]? = some (.cells #[.int .i64 (n : Int), .int .u16 (lo (win (L ++ L) k n)), .int .u16 (hi (win (L ++ L) k n))] 26 (0, 0)) ∧ Below w1.heap.size w1 wr) (fun i _ _ => m - (intOf i).toNat)
  case atStart => exact ⟨0, by omega, rfl, by rw [win_zero2 L n (by rw [HL.out]; omega)]; exact Hst.out, (Below.refl _ _).alloc (Nat.le_refl _) _⟩
  case round =>
    clear Hst
    obtain ⟨k, hk, rfl, h1, hbel⟩ := hrel
    have H1 := hide h1
    have HB := hide hbel
    have f1 := blk3 h1
    have z1 := heap_lt h1
    clear h1 hbel
    by_cases hlt : k < m
    · have hjm : (k + n) % m < m := Nat.mod_lt _ hm
      have hcx : wr.cell? ⟨b, off + k, none⟩ = some (.int .u8 ((L ++ L).getD k 0)) := by rw [twice_low L k (by rw [HL.out]; exact hlt)]; exact (HB.out.cell (p := ⟨b, off + k, none⟩) hb1').trans (HC1.out k (by omega))
      have hcy : wr.cell? ⟨b, off + (k + n) % m, none⟩ = some (.int .u8 ((L ++ L).getD (k + n) 0)) := by rw [twice_mod L (k + n) m HL.out (by omega) hm]; exact (HB.out.cell (p := ⟨b, off + (k + n) % m, none⟩) hb1').trans (HC1.out _ hjm)
      have hx := byt_getD hDB k
      have hy := byt_getD hDB (k + n)
      have HT := hide (win_cons (L ++ L) k n (by rw [HD.out]; omega) (by omega))
      have HT2 := hide (show win (L ++ L) (k + 1) (n - 1) ++ [(L ++ L).getD (k + n) 0] = win (L ++ L) (k + 1) n by
        have := win_snoc (L ++ L) (k + 1) (n - 1) (by rw [HD.out]; omega)
        rwa [show k + 1 + (n - 1) = k + n by omega, show n - 1 + 1 = n by omega] at this)
      have hlW : (win (L ++ L) (k + 1) (n - 1)).length = n - 1 := win_length _ _ _ (by rw [HD.out]; omega)
      have HlW := hide hlW
      clear hlW
      go_wp2_with fail
      rw [HT.out] at f1
      generalize (L ++ L).getD k 0 = x at *
      generalize (L ++ L).getD (k + n) 0 = y at *
      generalize hV : win (L ++ L) (k + 1) (n - 1) = V at *
      clear hV
      have hwk : IntKind.i64.wrap ((k : Int) + (n : Int)) = (k : Int) + (n : Int) := IntWalk.i64_in _ (by omega)
      have hk1 : (k : Int) < (m : Int) := by omega
      have hk0 : (0 : Int) ≤ (k : Int) := by omega
      have hm0 : ¬ (m : Int) = 0 := by omega
      have hrem2 : ((k : Int) + (n : Int)) % (m : Int) = (((k + n) % m : Nat) : Int) := by rw [Int.natCast_emod, Int.natCast_add]
      have hrem : ((k : Int) + (n : Int)).tmod (m : Int) = (((k + n) % m : Nat) : Int) := by rw [Int.tmod_eq_emod_of_nonneg (by omega)]; exact hrem2
      generalize (k + n) % m = j at *
      have hj1 : (j : Int) < (m : Int) := by omega
      have hj0 : (0 : Int) ≤ (j : Int) := by omega
      have hwj : IntKind.i64.wrap (j : Int) = (j : Int) := IntWalk.i64_in _ (by omega)
      go_region_with (first
        | (go_at_call 6; refine (roll_L V n x y _ (by rw [HlW.out]; omega) (by rw [HlW.out]; omega) hx.1 hx.2 hy.1 hy.2).mono ?_; rintro e w2 ⟨rfl, hb2⟩; have H1' := hide (below_blk hb2 z1 H1.out); have f2 := blk3 H1'.out; have HB2 := hide (HB.out.drew.trans (hb2.mono (Nat.le_of_lt z1))); clear hb2 f1 hcx hcy))
      all_goals
        rw [HT2.out]
        have H3 := hide (blk3_set H1'.out (.int .i64 (n : Int)) (.int .u16 (lo (win (L ++ L) (k + 1) n))) (.int .u16 (hi (win (L ++ L) (k + 1) n))))
        have HB3 := hide (below_set3 HB2.out (Nat.le_refl w1.heap.size) (.int .i64 (n : Int)) (.int .u16 (lo (win (L ++ L) (k + 1) n))) (.int .u16 (hi (win (L ++ L) (k + 1) n))))
        clear H1' HB2 hwk hrem hrem2 hwj f2
        go_wp2
        go_roundw
        case rel => exact ⟨k + 1, by omega, by go_num, H3.out, HB3.out⟩
        case measure => simp [intOf]; omega
    · have hkl : k = m := by omega
      subst hkl
      rw [win_twice L k n HL.out hnm] at f1
      obtain ⟨e1, e2, e3, -⟩ := f1
      have hBB := HB.out
      have hw1 : (0 : Int) ≤ (n : Int) := by omega
      have hw2 : (n : Int) ≤ (cap : Int) := by omega
      go_wp2_with fail
      go_region_held3 (fun u => u.cell? ⟨w1.heap.size, 0, none⟩ = some (.int .i64 (n : Int)) ∧ u.cell? ⟨w1.heap.size, 1, none⟩ = some (.int .u16 (lo (L.take n))) ∧ u.cell? ⟨w1.heap.size, 2, none⟩ = some (.int .u16 (hi (L.take n))) ∧ Below w1.heap.size w1 u)
        (first | exact ⟨e1, e2, e3, hBB.drew⟩ | assumption | (apply keep3 <;> first | assumption | exact Nat.le_refl _))
        (first
          | (go_at_call 5; refine (of_row b off cap n (L.take n) _ (by rw [List.length_take, HL.out]; omega) (byt_take hL n) (by omega) ?_ ?_).mono ?_; (exact Nat.lt_of_lt_of_le hb1' hBB.size); (exact fun i hi => ((hBB.cell (p := ⟨b, off + i, none⟩) hb1').trans (HC1.out i (by omega))).trans (by simp [List.getD, List.getElem?_take_of_lt hi])); rintro e u ⟨rfl, hu⟩))
      have hfin := HB1.out.trans ((three_below (by assumption) : Below w1.heap.size w1 u).mono HB1.out.size)
      go_wp2
      go_ret
      exact ⟨rfl, hfin⟩
end Go.Proofs.Ytggdehlmlggmhab.WeakRoundW
