/- The reference's digits of a sum. -/
import Derived.Test.YtnjkjljalinibaaDoorSt
import Derived.StillTailTactics
import Derived.IntWalk
import Derived.Laws.Concat
namespace Go.Proofs.YtnjkjljalinibaaDoor.Srt
set_option linter.unusedVariables false
set_option linter.unusedSimpArgs false
open Go.ChangeShapes Go.WideShapes Go.ChangeAt Go.RowKit
open Go.Proofs.YtnjkjljalinibaaDoor.Wu Go.Proofs.YtnjkjljalinibaaDoor.Sm Go.Proofs.YtnjkjljalinibaaDoor.Sk Go.Proofs.YtnjkjljalinibaaDoor.Sc Go.Proofs.YtnjkjljalinibaaDoor.Sxa Go.Proofs.YtnjkjljalinibaaDoor.Sh Go.Proofs.YtnjkjljalinibaaDoor.Sn Go.Proofs.YtnjkjljalinibaaDoor.Sw0 Go.Proofs.YtnjkjljalinibaaDoor.Sx Go.Proofs.YtnjkjljalinibaaDoor.Sw Go.Proofs.YtnjkjljalinibaaDoor.Sb Go.Proofs.YtnjkjljalinibaaDoor.Sf Go.Proofs.YtnjkjljalinibaaDoor.So Go.Proofs.YtnjkjljalinibaaDoor.St

theorem strN_append (A B : List Nat) : strN A ++ strN B = strN (A ++ B) := by
  unfold strN strOfNums
  apply ByteArray.ext
  simp [ByteArray.data_append]
theorem add_strN (A B : List Nat) (hA : A.length ≤ 8000000) (hB : B.length ≤ 8000000) (u : World) : Sem.run Tryd.prog (Op.stringOp .add (strN A) (strN B)) u = .ok (.string (strN (A ++ B))) u := by
  have h := run_string_add (P := Tryd.prog) u (strN A) (strN B) (by rw [show (strN A).size = A.length by unfold strN; rw [strOfNums_size]; simp]; omega) (by rw [show (strN B).size = B.length by unfold strN; rw [strOfNums_size]; simp]; omega)
  rw [h, strN_append]
theorem strN_nil : (strN [] : ByteArray) = ⟨#[]⟩ := rfl
theorem strN_size (A : List Nat) : (strN A).size = A.length := by unfold strN; rw [strOfNums_size]; simp
theorem textL_snoc (X : List Nat) (k : Nat) (hk : k < X.length) : textL (X.take (k + 1)) = textL (X.take k) ++ [dg (X.getD k 0 / 16), dg (X.getD k 0 % 16)] := by
  have e1 : X.take (k + 1) = X.take k ++ [X.getD k 0] := by
    rw [List.take_succ_eq_append_getElem hk]; simp [List.getD, hk]
  rw [e1]; simp [textL]
set_option maxHeartbeats 1600000 in
set_option maxRecDepth 100000 in
theorem refText_c (X : List Nat) (w : World) (hX : X.length = 32) (h8 : All8 X) :
    Calls Tryd.prog 23 #[.agg (u8s X)] w fun e w' => e = .returned (.string (strN (textL X))) ∧ Below w.heap.size w w' := by
  have HX := hide hX
  have H0 := hide (heap_last w (.cells (u8s X) 27))
  have HB := hide (below_new w (.cells (u8s X) 27))
  clear hX
  go_enter Tryd.func23, Tryd.ntmps23
  go_wp2_with fail
  generalize (w.alloc (.cells (u8s X) 27)) = w1 at *
  go_loopw [5, 4, 6] (fun i s _ wr => ∃ k : Nat, k ≤ 32 ∧ i = .int .i64 k ∧ s = .string (strN (textL (X.take k))) ∧ wr.heap[w.heap.size]? = some (.cells (u8s X) 27 (0, 0)) ∧ Below w.heap.size w wr) (fun i _ _ _ => 32 - (intOf i).toNat)
  case atStart => exact ⟨0, by omega, rfl, rfl, H0.out, HB.out⟩
  case round =>
    clear H0 HB
    obtain ⟨k, hk, rfl, rfl, h1, hb⟩ := hrel
    have H1 := hide h1
    have HB := hide hb
    clear h1 hb
    by_cases hlk : k < 32
    · have hx8 := all8_getD h8 k
      have Hst := hide (textL_snoc X k (by rw [HX.out]; exact hlk))
      have cx := row8 (i := k) H1.out (by rw [HX.out]; exact hlk)
      obtain ⟨x, hx⟩ : ∃ x, x = X.getD k 0 := ⟨_, rfl⟩
      rw [← hx] at cx hx8 Hst
      clear hx
      have hd : decide ((k : Int) < 32) = true := by simp; omega
      have k0 : (0 : Int) ≤ (k : Int) := by omega
      have k1 : (k : Int) < 32 := by omega
      obtain ⟨S, hS⟩ : ∃ S, S = textL (X.take k) := ⟨_, rfl⟩
      have hSl : S.length ≤ 64 := by rw [hS, textL_length, List.length_take]; omega
      rw [← hS] at Hst ⊢
      clear hS
      have q0 : (0 : Int) ≤ (x : Int) / 16 := by omega
      have q1 : (x : Int) / 16 < 16 := by omega
      have r0 : (0 : Int) ≤ (x : Int) % 16 := by omega
      have r1 : (x : Int) % 16 < 16 := by omega
      go_wp2_with fail
      have wq : IntKind.i64.wrap ((x : Int) / 16) = (x : Int) / 16 := IntWalk.i64_in _ (by omega)
      have wm : IntKind.i64.wrap ((x : Int) % 16) = (x : Int) % 16 := IntWalk.i64_in _ (by omega)
      have tq : ((x : Int) / 16).toNat = x / 16 := by omega
      have tm : ((x : Int) % 16).toNat = x % 16 := by omega
      have hcv : ∀ a b : Nat, Sem.run Tryd.prog (convert 31 9 (.slice (some ⟨wr.heap.size, 0, none⟩) 2 2)) ((wr.alloc (.cells #[.int .u8 (a : Int), .int .u8 (b : Int)] 5)).drew) = .ok (.string (strN [a, b])) ((wr.alloc (.cells #[.int .u8 (a : Int), .int .u8 (b : Int)] 5)).drew) := fun a b =>
        conv_row (L := [a, b]) rfl (fun i hi => by
          match i, hi with
          | 0, _ => exact blk_cell (heap_last wr _) rfl
          | 1, _ => exact blk_cell (heap_last wr _) rfl)
      have ht1 : ((x : Int)).tmod 16 = (x : Int) % 16 := Int.tmod_eq_emod_of_nonneg (by omega)
      have hadd := fun (a b : Nat) (u : World) => add_strN S [a, b] (by omega) (by simp) u
      go_region
      clear hadd hcv
      go_wp2
      go_roundw
      case rel =>
        refine ⟨k + 1, by omega, by go_num, ?_, heap_old H1.out _, ?_⟩
        · rw [hex_get, hex_get, Hst.out]
        · exact (HB.out.alloc HB.out.size _).drew
      case measure => simp [intOf]; omega
    · have hk8 : k = 32 := by omega
      subst hk8
      have Hl : Hid (X.take 32 = X) := by show _ = _; rw [List.take_of_length_le (by rw [HX.out]; omega)]
      rw [Hl.out]
      go_wp2
      go_ret
      exact ⟨rfl, HB.out⟩
end Go.Proofs.YtnjkjljalinibaaDoor.Srt
