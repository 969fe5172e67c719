/- The reference's weak sum of a text. -/
import Derived.Test.YtggdehlmlggmhaaWc
namespace Go.Proofs.Ytggdehlmlggmhaa.Wv
set_option linter.unusedVariables false
set_option linter.unusedSimpArgs false
open Go.ChangeShapes Go.WideShapes Go.ChangeAt Go.RowKit
open Go.Proofs.Ytggdehlmlggmhaa.Wm Go.Proofs.Ytggdehlmlggmhaa.Wu

theorem w64 (x : Int) (h : -9223372036854775808 ≤ x) (h' : x ≤ 9223372036854775807) : wrap64 x = x := by
  unfold wrap64
  omega
theorem step_b (b d c : Int) (h1 : 0 ≤ b) (h2 : b ≤ 4278190080) (h3 : 0 ≤ c) (h4 : c < 256) (h5 : 0 ≤ d) (h6 : d ≤ 4096) : wrap64 (b + wrap64 (d * c)) = b + d * c := by
  have h7 : 0 ≤ d * c := Int.mul_nonneg h5 h3
  have h8 : d * c ≤ 4096 * c := Int.mul_le_mul_of_nonneg_right h6 h3
  rw [w64 (d * c) (by omega) (by omega), w64 _ (by omega) (by omega)]

theorem ref_any (s : ByteArray) (w : World) (hs : s.size ≤ 4096) :
    Calls Try.prog 13 #[.string s] w fun e w' => e = .returned (.int .i64 (hi (nums s) * 65536 + lo (nums s))) ∧ w = w' := by
  have HB := hide (byt_nums s)
  have HL := hide (nums_length s)
  go_enter Try.func13, Try.ntmps13
  go_wp2_with fail
  go_loop [3, 4, 5] (fun a b i => ∃ k : Nat, k ≤ s.size ∧ i = .int .i64 k ∧ a = .int .i64 (sm ((nums s).take k)) ∧ b = .int .i64 (pw s.size ((nums s).take k))) (fun _ _ i => s.size - (intOf i).toNat)
  case atStart => exact ⟨0, Nat.zero_le _, rfl, rfl, rfl⟩
  case round =>
    obtain ⟨k, hk, rfl, rfl, rfl⟩ := hrel
    have h1 := sm_bd (byt_take HB.out k)
    have h2 := pw_bd4 (byt_take HB.out k) (s.size : Int) (by rw [List.length_take, HL.out]; omega) (by omega)
    have h3 : ((nums s).take k).length ≤ k := List.length_take_le _ _
    by_cases hlt : k < s.size
    · have h4 := byt_getD HB.out k
      have H5 := hide (nums_getD s k hlt)
      have H6 := hide (pw_take (nums s) (s.size : Int) k (by rw [HL.out]; exact hlt))
      have H7 := hide (sm_take (nums s) k (by rw [HL.out]; exact hlt))
      have h5 := h4
      rw [H5.out] at h5
      go_wp2
      go_round
      case rel =>
        refine ⟨k + 1, by omega, by go_num, ?_, ?_⟩
        · rw [H7.out, H5.out]
        · rw [step_b _ ((s.size : Int) - k) _ h2.1 h2.2 h5.1 h5.2 (by omega) (by omega), H6.out, H5.out]
      case measure => simp [intOf]; omega
    · have hkl : k = s.size := by omega
      subst hkl
      have H8 := hide (List.take_of_length_le (l := nums s) (i := s.size) (by rw [HL.out]; omega))
      go_wp2
      go_ret
      refine ⟨?_, rfl⟩
      show Ending.returned (.int .i64 (pw (s.size : Int) (List.take s.size (nums s)) % 65536 * 65536 + sm (List.take s.size (nums s)) % 65536)) = _
      rw [H8.out]
      unfold hi lo
      rw [HL.out]
theorem ref_nums (L : List Int) (w : World) (hL : Byt L) (hs : L.length ≤ 4096) :
    Calls Try.prog 13 #[.string (strOfNums L)] w fun e w' => e = .returned (.int .i64 (hi L * 65536 + lo L)) ∧ w = w' := by
  have h := ref_any (strOfNums L) w (by rw [strOfNums_size]; exact hs)
  rw [nums_strOfNums hL] at h
  exact h
theorem conv_none (P : Program) (a : Option Addr) (cap : Nat) (u : World) (src dst e : TypeId) (hs : P.underlying src = some (.slice e)) (he : P.underlying e = some (.int .u8)) (hd : P.underlying dst = some .string) :
    Sem.run P (convert src dst (.slice a 0 cap)) u = .ok (.string (strOfNums [])) u := by
  rw [run_convert_bytes_string u src dst e a 0 cap hs he hd]
  cases a with
  | none => simp [Conv.bytesToString]; rfl
  | some x => exact run_bytesToString u x 0 cap [] (by simp [loadCells]; rfl)
end Go.Proofs.Ytggdehlmlggmhaa.Wv
