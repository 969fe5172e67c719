/- The reference's numbers and texts as bytes. -/
import Derived.Test.YtkinpbhbgeiflaaDoorCy
import Derived.Test.YtkinpbhbgeiflaaDoorQg
import Derived.Laws.Concat
namespace Go.Proofs.YtkinpbhbgeiflaaDoor.Rn
set_option linter.unusedVariables false
set_option linter.unusedSimpArgs false
set_option maxRecDepth 100000
open Go.ChangeShapes Go.WideShapes Go.ChangeAt Go.RowKit
open Go.Proofs.YtkinpbhbgeiflaaDoor.Wu Go.Proofs.YtkinpbhbgeiflaaDoor.Sm Go.Proofs.YtkinpbhbgeiflaaDoor.Sh Go.Proofs.YtkinpbhbgeiflaaDoor.Ba Go.Proofs.YtkinpbhbgeiflaaDoor.Bp Go.Proofs.YtkinpbhbgeiflaaDoor.Bq Go.Proofs.YtkinpbhbgeiflaaDoor.Cm Go.Proofs.YtkinpbhbgeiflaaDoor.Cn Go.Proofs.YtkinpbhbgeiflaaDoor.Bs Go.Proofs.YtkinpbhbgeiflaaDoor.Cy
theorem strN_append (A B : List Nat) : strN A ++ strN B = strN (A ++ B) := by
  unfold strN strOfNums
  apply ByteArray.ext
  simp [ByteArray.data_append]
theorem add_strN (A B : List Nat) (hA : A.length ≤ 8000000) (hB : B.length ≤ 8000000) (u : World) : Sem.run Tryd.prog (Op.stringOp .add (strN A) (strN B)) u = .ok (.string (strN (A ++ B))) u := by
  have h := run_string_add (P := Tryd.prog) u (strN A) (strN B) (by rw [strN_size]; omega) (by rw [strN_size]; omega)
  rw [h, strN_append]
theorem strN_nil : (⟨#[]⟩ : ByteArray) = strN [] := rfl
set_option maxHeartbeats 1600000 in
theorem refNum_mid (n : Nat) (w : World) (hn : n ≤ 1099511627776) :
    Calls Tryd.prog 62 #[.int .i64 (n : Int)] w fun e w' => e = .returned (.string (strN (numL n))) ∧ Below w.heap.size w w' := by
  have d1 : ¬ ((n : Int) < 0) := by omega
  have d2 : ¬ (1099511627776 < (n : Int)) := by omega
  have d1' : decide ((n : Int) < 0) = false := by simp
  have d2' : decide (1099511627776 < (n : Int)) = false := by simp; omega
  have d3 := numL_six n hn
  go_enter Tryd.func62, Tryd.ntmps62
  go_wp2_with fail
  go_loopw [3, 0] (fun b m wr => ∃ (k : Nat) (cur : List Nat), m = .int .i64 (k : Int) ∧ k ≤ 1099511627776 ∧ b = .string (strN cur) ∧ cur ++ numL k = numL n ∧ Below w.heap.size w wr) (fun _ m _ => (intOf m).toNat)
  case atStart => exact ⟨n, [], rfl, hn, rfl, rfl, Below.refl _ _⟩
  case round =>
    obtain ⟨k, cur, rfl, hk, rfl, he, hB⟩ := hrel
    have HE := hide he
    have HB := hide hB
    have hcl : cur.length ≤ 6 := by
      have := congrArg List.length he
      rw [List.length_append] at this
      omega
    clear he hB
    have hcv : ∀ x : Nat, Sem.run Tryd.prog (convert 22 9 (.slice (some ⟨wr.heap.size, 0, none⟩) 1 1)) (wr.alloc (.cells #[.int .u8 (x : Int)] 5)) = .ok (.string (strN [x])) (wr.alloc (.cells #[.int .u8 (x : Int)] 5)) := fun x =>
        conv_row (L := [x]) rfl (fun i hi => by
          match i, hi with
          | 0, _ => exact blk_cell (heap_last wr _) rfl)
    have HCV := hide hcv
    have HAD := hide (fun (x : Nat) (u : World) => add_strN cur [x] (by omega) (by simp) u)
    clear hcv
    by_cases hlt : k < 128
    · have hd : decide ((128 : Int) ≤ (k : Int)) = false := by simp; omega
      have HL := hide (numL_small k hlt)
      have HB2 := hide (HB.out.alloc HB.out.size (.cells #[.int .u8 (k : Int)] 5))
      go_wp2_with fail
      rw [HCV.out]
      have hadd := HAD.out
      go_wp2
      go_ret
      refine ⟨?_, HB2.out⟩
      rw [← HE.out, HL.out]
      rfl
    · have hd : decide ((128 : Int) ≤ (k : Int)) = true := by simp; omega
      have HL := hide (numL_big k hlt)
      obtain ⟨x, hx⟩ : ∃ x, x = k % 128 + 128 := ⟨_, rfl⟩
      have hx8 : x < 256 := by omega
      have hxe : (k : Int) % 128 + 128 = (x : Int) := by omega
      have HX := hide hx
      clear hx
      have HB2 := hide (HB.out.alloc HB.out.size (.cells #[.int .u8 (x : Int)] 5))
      go_wp2_with fail
      rw [HCV.out]
      have hadd := HAD.out
      go_wp2
      go_roundw
      case rel =>
        refine ⟨k / 128, cur ++ [x], by go_num, by omega, rfl, ?_, HB2.out⟩
        rw [← HE.out, HL.out, HX.out, List.append_assoc]
        rfl
      case measure => simp [intOf]; omega
set_option maxHeartbeats 1600000 in
theorem refNum_neg (z : Int) (n : Nat) (w : World) (hz : z < 0) (hnv : n = 0) :
    Calls Tryd.prog 62 #[.int .i64 z] w fun e w' => e = .returned (.string (strN (numL n))) ∧ Below w.heap.size w w' := by
  have hn : n ≤ 1099511627776 := by omega
  have HN := hide hnv
  clear hnv
  have d1' : decide (z < 0) = true := by simp; omega
  have d3 := numL_six n hn
  go_enter Tryd.func62, Tryd.ntmps62
  go_wp2_with fail
  go_loopw [3, 0] (fun b m wr => ∃ (k : Nat) (cur : List Nat), m = .int .i64 (k : Int) ∧ k ≤ 1099511627776 ∧ b = .string (strN cur) ∧ cur ++ numL k = numL n ∧ Below w.heap.size w wr) (fun _ m _ => (intOf m).toNat)
  case atStart => exact ⟨n, [], by rw [HN.out]; rfl, hn, rfl, rfl, Below.refl _ _⟩
  case round =>
    obtain ⟨k, cur, rfl, hk, rfl, he, hB⟩ := hrel
    have HE := hide he
    have HB := hide hB
    have hcl : cur.length ≤ 6 := by
      have := congrArg List.length he
      rw [List.length_append] at this
      omega
    clear he hB
    have hcv : ∀ x : Nat, Sem.run Tryd.prog (convert 22 9 (.slice (some ⟨wr.heap.size, 0, none⟩) 1 1)) (wr.alloc (.cells #[.int .u8 (x : Int)] 5)) = .ok (.string (strN [x])) (wr.alloc (.cells #[.int .u8 (x : Int)] 5)) := fun x =>
        conv_row (L := [x]) rfl (fun i hi => by
          match i, hi with
          | 0, _ => exact blk_cell (heap_last wr _) rfl)
    have HCV := hide hcv
    have HAD := hide (fun (x : Nat) (u : World) => add_strN cur [x] (by omega) (by simp) u)
    clear hcv
    by_cases hlt : k < 128
    · have hd : decide ((128 : Int) ≤ (k : Int)) = false := by simp; omega
      have HL := hide (numL_small k hlt)
      have HB2 := hide (HB.out.alloc HB.out.size (.cells #[.int .u8 (k : Int)] 5))
      go_wp2_with fail
      rw [HCV.out]
      have hadd := HAD.out
      go_wp2
      go_ret
      refine ⟨?_, HB2.out⟩
      rw [← HE.out, HL.out]
      rfl
    · have hd : decide ((128 : Int) ≤ (k : Int)) = true := by simp; omega
      have HL := hide (numL_big k hlt)
      obtain ⟨x, hx⟩ : ∃ x, x = k % 128 + 128 := ⟨_, rfl⟩
      have hx8 : x < 256 := by omega
      have hxe : (k : Int) % 128 + 128 = (x : Int) := by omega
      have HX := hide hx
      clear hx
      have HB2 := hide (HB.out.alloc HB.out.size (.cells #[.int .u8 (x : Int)] 5))
      go_wp2_with fail
      rw [HCV.out]
      have hadd := HAD.out
      go_wp2
      go_roundw
      case rel =>
        refine ⟨k / 128, cur ++ [x], by go_num, by omega, rfl, ?_, HB2.out⟩
        rw [← HE.out, HL.out, HX.out, List.append_assoc]
        rfl
      case measure => simp [intOf]; omega
set_option maxHeartbeats 1600000 in
theorem refNum_big (z : Int) (n : Nat) (w : World) (hz : 1099511627776 < z) (hnv : n = 1099511627776) :
    Calls Tryd.prog 62 #[.int .i64 z] w fun e w' => e = .returned (.string (strN (numL n))) ∧ Below w.heap.size w w' := by
  have hn : n ≤ 1099511627776 := by omega
  have HN := hide hnv
  clear hnv
  have d1 : ¬ (z < 0) := by omega
  have d1' : decide (z < 0) = false := by simp; omega
  have d2' : decide (1099511627776 < z) = true := by simp; omega
  have d3 := numL_six n hn
  go_enter Tryd.func62, Tryd.ntmps62
  go_wp2_with fail
  go_loopw [3, 0] (fun b m wr => ∃ (k : Nat) (cur : List Nat), m = .int .i64 (k : Int) ∧ k ≤ 1099511627776 ∧ b = .string (strN cur) ∧ cur ++ numL k = numL n ∧ Below w.heap.size w wr) (fun _ m _ => (intOf m).toNat)
  case atStart => exact ⟨n, [], by rw [HN.out]; rfl, hn, rfl, rfl, Below.refl _ _⟩
  case round =>
    obtain ⟨k, cur, rfl, hk, rfl, he, hB⟩ := hrel
    have HE := hide he
    have HB := hide hB
    have hcl : cur.length ≤ 6 := by
      have := congrArg List.length he
      rw [List.length_append] at this
      omega
    clear he hB
    have hcv : ∀ x : Nat, Sem.run Tryd.prog (convert 22 9 (.slice (some ⟨wr.heap.size, 0, none⟩) 1 1)) (wr.alloc (.cells #[.int .u8 (x : Int)] 5)) = .ok (.string (strN [x])) (wr.alloc (.cells #[.int .u8 (x : Int)] 5)) := fun x =>
        conv_row (L := [x]) rfl (fun i hi => by
          match i, hi with
          | 0, _ => exact blk_cell (heap_last wr _) rfl)
    have HCV := hide hcv
    have HAD := hide (fun (x : Nat) (u : World) => add_strN cur [x] (by omega) (by simp) u)
    clear hcv
    by_cases hlt : k < 128
    · have hd : decide ((128 : Int) ≤ (k : Int)) = false := by simp; omega
      have HL := hide (numL_small k hlt)
      have HB2 := hide (HB.out.alloc HB.out.size (.cells #[.int .u8 (k : Int)] 5))
      go_wp2_with fail
      rw [HCV.out]
      have hadd := HAD.out
      go_wp2
      go_ret
      refine ⟨?_, HB2.out⟩
      rw [← HE.out, HL.out]
      rfl
    · have hd : decide ((128 : Int) ≤ (k : Int)) = true := by simp; omega
      have HL := hide (numL_big k hlt)
      obtain ⟨x, hx⟩ : ∃ x, x = k % 128 + 128 := ⟨_, rfl⟩
      have hx8 : x < 256 := by omega
      have hxe : (k : Int) % 128 + 128 = (x : Int) := by omega
      have HX := hide hx
      clear hx
      have HB2 := hide (HB.out.alloc HB.out.size (.cells #[.int .u8 (x : Int)] 5))
      go_wp2_with fail
      rw [HCV.out]
      have hadd := HAD.out
      go_wp2
      go_roundw
      case rel =>
        refine ⟨k / 128, cur ++ [x], by go_num, by omega, rfl, ?_, HB2.out⟩
        rw [← HE.out, HL.out, HX.out, List.append_assoc]
        rfl
      case measure => simp [intOf]; omega
theorem refNum_any (z : Int) (w : World) :
    Calls Tryd.prog 62 #[.int .i64 z] w fun e w' => e = .returned (.string (strN (numL (cl z)))) ∧ Below w.heap.size w w' := by
  by_cases h1 : z < 0
  · exact refNum_neg z (cl z) w h1 (by simp [cl, h1])
  · by_cases h2 : 1099511627776 < z
    · exact refNum_big z (cl z) w h2 (by simp [cl, h1, h2])
    · obtain ⟨n, rfl⟩ := Int.eq_ofNat_of_zero_le (show 0 ≤ z by omega)
      have e : cl (n : Int) = n := by simp [cl, h2]; omega
      rw [e]
      exact refNum_mid n w (by omega)
end Go.Proofs.YtkinpbhbgeiflaaDoor.Rn
