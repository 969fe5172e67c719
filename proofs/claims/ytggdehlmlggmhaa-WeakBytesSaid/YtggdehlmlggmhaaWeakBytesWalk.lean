/- WeakBytes: the walk. -/
import Derived.Test.YtggdehlmlggmhaaWc
import Derived.Test.YtggdehlmlggmhaaWv
import Derived.Test.YtggdehlmlggmhaaWx
import Derived.Test.YtggdehlmlggmhaaWy
namespace Go.Proofs.Ytggdehlmlggmhaa.WeakBytesW
set_option linter.unusedVariables false
set_option linter.unusedSimpArgs false
open Go.ChangeShapes Go.WideShapes Go.ChangeAt Go.RowKit
open Go.Proofs.Ytggdehlmlggmhaa.Wm Go.Proofs.Ytggdehlmlggmhaa.Wu Go.Proofs.Ytggdehlmlggmhaa.Wk Go.Proofs.Ytggdehlmlggmhaa.Wc Go.Proofs.Ytggdehlmlggmhaa.Wv Go.Proofs.Ytggdehlmlggmhaa.Wx Go.Proofs.Ytggdehlmlggmhaa.Wy

theorem info_u8 : (Try.prog.info? 5).map (fun i => (i.zero, i.size, i.bytes)) = some (some (.int .u8 0), 1, 1) := by kernel_rfl

theorem early_walk (HR : RollsTrue) (x n : Int) (w : World) (hs : n < 0 ∨ 2000 < n) :
    Calls Try.prog 7 #[.int .u8 x, .int .i64 n] w fun e w' => e = .returned (.bool true) ∧ Below w.heap.size w w' := by
  by_cases h1 : n < 0
  · have hd : decide (n < 0) = true := by simpa using h1
    clear hs
    go_enter Try.func7, Try.ntmps7
    go_wp2_with fail
    refine (HR _).mono ?_
    rintro e w0 ⟨rfl, hb0⟩
    have HB0 := hide hb0
    clear hb0
    go_wp2
    go_ret
    exact ⟨rfl, HB0.out⟩
  · have h2 : 2000 < n := by omega
    have hd : decide (n < 0) = false := by simpa using h1
    clear hs
    go_enter Try.func7, Try.ntmps7
    go_wp2_with fail
    refine (HR _).mono ?_
    rintro e w0 ⟨rfl, hb0⟩
    have HB0 := hide hb0
    clear hb0
    go_wp2
    go_ret
    exact ⟨rfl, HB0.out⟩

theorem of_brow (g cap n : Nat) (L : List Int) (w : World) (hn : L.length = n) (hL : Byt L) (hlen : n < 2147483648) (h : BRow w g 5 L) :
    Calls Try.prog 11 #[.slice (some ⟨g, 0, none⟩) n cap] w fun e w' =>
      e = .returned (.agg #[.int .i64 (n : Int), .int .u16 (lo L), .int .u16 (hi L)]) ∧ Below w.heap.size w w' :=
  of_row g 0 cap n L w hn hL hlen h.lt (fun i hi => by rw [Nat.zero_add]; exact h.cell i (by omega))
theorem of_zeros (g cap n : Nat) (w : World) (hlen : n < 2147483648) (h : BRow w g 5 (List.replicate n 0)) :
    Calls Try.prog 11 #[.slice (some ⟨g, 0, none⟩) n cap] w fun e w' =>
      e = .returned (.agg #[.int .i64 (n : Int), .int .u16 0, .int .u16 0]) ∧ Below w.heap.size w w' := by
  have := of_brow g cap n (List.replicate n 0) w (by simp) (byt_alike n 0 (by omega) (by omega)) hlen h
  rw [lo_zeros, hi_zeros] at this
  exact this

theorem and_low (z : Int) (h : 0 ≤ z) (h' : z < 4294967296) : bits .and .u32 z 65535 = z % 65536 := by
  rw [u32_and _ _ h h' (by omega) (by omega)]
  obtain ⟨Z, rfl⟩ := Int.eq_ofNat_of_zero_le h
  rw [Int.toNat_natCast, show (65535 : Int).toNat = 2 ^ 16 - 1 from rfl, Nat.and_two_pow_sub_one_eq_mod]
  omega
theorem low_is (k : Nat) (x : Int) : bits .and .u32 ((k : Int) * x % 4294967296) 65535 = lo (List.replicate k x) := by
  rw [and_low _ (by omega) (by omega)]
  unfold lo
  rw [sm_alike]
  omega
theorem high_is (k : Nat) (x : Int) (hk : k ≤ 2000) (hx : 0 ≤ x) (hx' : x < 256) : bits .and .u32 ((k : Int) * ((k : Int) + 1) % 4294967296 / 2 * x % 4294967296) 65535 = hi (List.replicate k x) := by
  rw [and_low _ (by omega) (by omega)]
  unfold hi
  rw [List.length_replicate]
  have h1 := pw_alike k 1
  have h2 := pw_alike k x
  have h3 : (k : Int) * ((k : Int) + 1) ≤ 2000 * ((k : Int) + 1) := Int.mul_le_mul_of_nonneg_right (by omega) (by omega)
  have h4 : 0 ≤ (k : Int) * ((k : Int) + 1) := Int.mul_nonneg (by omega) (by omega)
  rw [Int.mul_one] at h1
  generalize pw (k : Int) (List.replicate k x) = p at *
  generalize pw (k : Int) (List.replicate k 1) = q at *
  generalize (k : Int) * ((k : Int) + 1) = m at *
  have h5 : m % 4294967296 / 2 = q := by omega
  rw [h5]
  have h6 : q * x = p := by
    rw [← h1, Int.mul_assoc] at h2
    omega
  rw [h6]
  omega
theorem of_one (g cap : Nat) (x : Int) (m : Nat × Nat) (T : TypeId) (w : World) (hx : 0 ≤ x) (hx' : x < 256) (hw : w.heap[g]? = some (.cells #[.int .u8 x] T m)) :
    Calls Try.prog 11 #[.slice (some ⟨g, 0, none⟩) 1 cap] w fun e w' =>
      e = .returned (.agg #[.int .i64 1, .int .u16 x, .int .u16 x]) ∧ Below w.heap.size w w' := by
  have h := of_some g 0 cap [x] w (by intro z hz; simp at hz; omega) (by simp) (heap_lt hw) (fun i hi => by
    match i, hi with
    | 0, _ => exact blk_cell hw rfl)
  have e1 : lo [x] = x := by simp [lo, sm]; omega
  have e2 : hi [x] = x := by simp [hi, pw]; omega
  rw [e1, e2] at h
  exact h

set_option maxHeartbeats 1600000 in
theorem main_walk (HR : RollsTrue) (x : Int) (n : Nat) (w : World) (hx : 0 ≤ x) (hx' : x < 256) (hn : n ≤ 2000) :
    Calls Try.prog 7 #[.int .u8 x, .int .i64 (n : Int)] w fun e w' => e = .returned (.bool true) ∧ Below w.heap.size w w' := by
  obtain ⟨i0, hi0, hz0, hz1, hz2⟩ := info_parts info_u8
  have Hi0 := hide hi0
  have Hz0 := hide hz0
  have Hz1 := hide hz1
  have Hz2 := hide hz2
  clear hi0 hz0 hz1 hz2
  have hd1 : decide ((n : Int) < 0) = false := by simp
  have hd2 : decide ((2000 : Int) < (n : Int)) = false := by simp; omega
  go_enter Try.func7, Try.ntmps7
  go_wp2_with fail
  refine (HR _).mono ?_
  rintro e w0 ⟨rfl, hb0⟩
  have HB0 := hide hb0
  clear hb0
  obtain ⟨w1, hrun, hown, hgrow⟩ := run_make_full (P := Try.prog) w0 w0.heap.size 22 5 i0 (.int .u8 0) 1 Try.underlying22 Hi0.out Hz0.out Hz1.out .i64 .i64 n (by rw [Hz2.out]; omega) (by unfold maxLen; omega) (Nat.le_refl _)
  have hown' : w1.ownsRow w0.heap.size 5 1 (.slice (some ⟨w0.heap.size, 0, none⟩) n n) n (List.replicate n (.int .u8 0)) := by
    have e : (madeCells (Value.int .u8 0).cells (n * 1)).toList = List.replicate n (.int .u8 0) := by
      rw [Nat.mul_one]; exact toList_madeCells_one _ n
    rw [e] at hown
    exact hown
  have HR1 := hide (made_brow hown')
  have HB1 := hide ((HB0.out : Below w.heap.size w w0).grown hgrow HB0.out.size (fun k hk => by cases hk))
  clear hown hown' hgrow
  have hg0 := HB0.out.size
  go_wp2_with fail
  clear hrun
  refine (of_zeros _ _ n _ (by omega) HR1.out).mono ?_
  rintro e w2 ⟨rfl, hb2⟩
  have HR2 := hide (HR1.out.below hb2 HR1.out.lt)
  have HB2 := hide (HB1.out.trans (hb2.mono HB1.out.size))
  clear hb2 HR1 HB1
  go_wp2_with fail
  refine (value_any _ 0 0 _ (by omega) (by omega) (by omega) (by omega)).mono ?_
  rintro e w3 ⟨rfl, hb3⟩
  have HR3 := hide (HR2.out.below hb3 HR2.out.lt)
  have HB3 := hide (HB2.out.trans (hb3.mono HB2.out.size))
  clear hb3 HR2 HB2
  go_wp2_with fail
  refine (of_zeros _ _ n _ (by omega) HR3.out).mono ?_
  rintro e w4 ⟨rfl, hb4⟩
  have HR4 := hide (HR3.out.below hb4 HR3.out.lt)
  have HB4 := hide (HB3.out.trans (hb4.mono HB3.out.size))
  clear hb4 HR3 HB3
  go_wp2_with fail
  refine (size_any _ _ _ _).mono ?_
  rintro e w5 ⟨rfl, hb5⟩
  have HR5 := hide (HR4.out.below hb5 HR4.out.lt)
  have HB5 := hide (HB4.out.trans (hb5.mono HB4.out.size))
  clear hb5 HR4 HB4
  go_wp2_with fail
  go_loopw [32, 6] (fun i _ wr => ∃ k : Nat, k ≤ n ∧ i = .int .i64 k ∧ BRow wr w0.heap.size 5 (List.replicate k x ++ List.replicate (n - k) 0) ∧ Below w.heap.size w wr) (fun i _ _ => n - (intOf i).toNat)
  case atStart => exact ⟨0, Nat.zero_le _, rfl, by simpa using HR5.out, HB5.out⟩
  case round =>
    clear HR5 HB5
    obtain ⟨k, hk, rfl, h1, hbel⟩ := hrel
    have H1 := hide h1
    have HB := hide hbel
    clear h1 hbel
    by_cases hlt : k < n
    · have hcx := H1.out.cell k (by simp; omega)
      have hfx := H1.out.free k
      have HS := hide (H1.out.set k x)
      go_wp2
      go_roundw
      case rel => exact ⟨k + 1, by omega, by go_num, by rw [← set_step n k x hlt]; exact HS.out, HB.out.setCell hg0 _⟩
      case measure => simp [intOf]; omega
    · have hkl : k = n := by omega
      subst hkl
      have h6 : BRow wr w0.heap.size 5 (List.replicate k x) := by
        have := H1.out
        rw [Nat.sub_self] at this
        simpa using this
      have HR6 := hide h6
      clear H1 h6 hlt hk
      have HX := hide (byt_alike k x hx hx')
      have Hlen : Hid ((List.replicate k x).length = k) := hide (List.length_replicate ..)
      have Hlow := hide (low_is k x)
      have Hhigh := hide (high_is k x hn hx hx')
      go_wp2_with fail
      rw [Hlow.out, Hhigh.out]
      clear Hlow Hhigh
      generalize List.replicate k x = X at *
      refine (of_brow _ _ k X _ Hlen.out HX.out (by omega) HR6.out).mono ?_
      rintro e w6 ⟨rfl, hb6⟩
      have HB6 := hide (HB.out.trans (hb6.mono HB.out.size))
      clear hb6 HR6 HB
      have lo1 := lo_nonneg X
      have lo2 := lo_lt X
      have hi1 := hi_nonneg X
      have hi2 := hi_lt X
      go_wp2_with fail
      refine (value_any _ _ _ _ lo1 lo2 hi1 hi2).mono ?_
      rintro e w7 ⟨rfl, hb7⟩
      have HB7 := hide (HB6.out.trans (hb7.mono HB6.out.size))
      clear hb7 HB6
      have hor := or_halves (hi X) (lo X) lo1 lo2 hi1 hi2
      go_wp2_with fail
      refine (of_one _ _ x _ _ _ hx hx' (heap_last _ _)).mono ?_
      rintro e w8 ⟨rfl, hb8⟩
      have HB8 := hide ((HB7.out.alloc HB7.out.size _).trans (hb8.mono (by have := HB7.out.size; simp; omega)))
      clear hb8 HB7 hor
      go_wp2_with fail
      refine (value_any _ _ _ _ hx (by omega) hx (by omega)).mono ?_
      rintro e w9 ⟨rfl, hb9⟩
      have HB9 := hide (HB8.out.trans (hb9.mono HB8.out.size))
      clear hb9 HB8
      have hor := or_halves x x hx (by omega) hx (by omega)
      go_wp2
      go_ret
      exact ⟨rfl, HB9.out⟩
end Go.Proofs.Ytggdehlmlggmhaa.WeakBytesW
