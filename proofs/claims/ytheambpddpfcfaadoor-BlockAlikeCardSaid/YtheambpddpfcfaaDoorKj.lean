/- block.Signature's Span. -/
import Derived.Test.YtheambpddpfcfaaDoorKi
namespace Go.Proofs.YtheambpddpfcfaaDoor.Kj
set_option linter.unusedVariables false
set_option linter.unusedSimpArgs false
set_option maxRecDepth 100000
open Go.ChangeShapes Go.WideShapes Go.ChangeAt Go.RowKit
open Go.Proofs.YtheambpddpfcfaaDoor.Wu Go.Proofs.YtheambpddpfcfaaDoor.Sm Go.Proofs.YtheambpddpfcfaaDoor.Sh Go.Proofs.YtheambpddpfcfaaDoor.Ba Go.Proofs.YtheambpddpfcfaaDoor.Bp Go.Proofs.YtheambpddpfcfaaDoor.Ka Go.Proofs.YtheambpddpfcfaaDoor.Kb Go.Proofs.YtheambpddpfcfaaDoor.Kc Go.Proofs.YtheambpddpfcfaaDoor.Kd Go.Proofs.YtheambpddpfcfaaDoor.Ke Go.Proofs.YtheambpddpfcfaaDoor.Rk Go.Proofs.YtheambpddpfcfaaDoor.Rw Go.Proofs.YtheambpddpfcfaaDoor.Rb1 Go.Proofs.YtheambpddpfcfaaDoor.Kg Go.Proofs.YtheambpddpfcfaaDoor.Kh Go.Proofs.YtheambpddpfcfaaDoor.Ki
open Go.Proofs.YtheambpddpfcfaaDoor.Su (cutL Cnt)
theorem Span_none (w : World) (sz cut len i : Int) (a : Option Addr) (m c : Nat) (hi : i < 0 ∨ (m : Int) ≤ i) :
    Calls Tryd.prog 28 #[sigV sz cut len (.slice a m c), .int .i64 i] w fun e w' => e = .returned (.tuple #[.int .i64 0, .int .i64 0]) ∧ Below w.heap.size w w' := by
  unfold sigV
  rcases hi with hi | hi
  · have d1 : decide (i < 0) = true := by simpa using hi
    clear hi
    go_enter Tryd.func28, Tryd.ntmps28
    go_wp2
    go_ret2
    exact ⟨rfl, below_new _ _⟩
  · have d1 : decide (i < 0) = false := by simp; omega
    have d2 : decide ((m : Int) ≤ i) = true := by simpa using hi
    clear hi
    go_enter Tryd.func28, Tryd.ntmps28
    go_wp2
    go_ret2
    exact ⟨rfl, below_new _ _⟩
theorem Span_c (w : World) (s k l i n : Nat) (a : Option Addr) (m c : Nat) (bs : List Blk) (hb : IsBks .u32 w (.slice a m c) bs) (hm : bs.length = m) (hch : checkE s k l bs = 0) (hi : i < m) (hn : min (s : Int) ((l : Int) - (i : Int) * (s : Int)) = (n : Int)) :
    Calls Tryd.prog 28 #[sigV s k l (.slice a m c), .int .i64 (i : Int)] w fun e w' => e = .returned (.tuple #[.int .i64 ((i * s : Nat) : Int), .int .i64 (n : Int)]) ∧ Below w.heap.size w w' := by
  have hf : fitsE s k l = 0 := by
    unfold checkE at hch
    split at hch
    · exact hch
    · rename_i h; simpa using h
  have hz := fitsE_zero hf
  have hmn : (m : Int) = cntZ l s := by
    unfold checkE at hch
    rw [if_neg (by simpa using hf)] at hch
    split at hch
    · cases hch
    · rename_i h; rw [← hm]; omega
  have h4 : m ≤ 4096 := by omega
  have HC := hide (check_c (w.alloc (.cells #[.int .i64 (s : Int), .int .i64 (k : Int), .int .i64 (l : Int), .slice a m c] 26)) s k l (.slice a m c) bs (hb.below (below_new _ _)) (by omega) (by omega))
  rw [hch] at HC
  have HSp := hide (fun u : World => span_c u s k l i (.slice a m c) (by omega) (by omega) (by omega) (by omega) (by omega) (by omega))
  rw [hn] at HSp
  have e0 : (i : Int) * (s : Int) = ((i * s : Nat) : Int) := by simp
  rw [e0] at HSp
  have HB := hide (below_new w (.cells #[.int .i64 (s : Int), .int .i64 (k : Int), .int .i64 (l : Int), .slice a m c] 26))
  have HS := hide (heap_last w (.cells #[.int .i64 (s : Int), .int .i64 (k : Int), .int .i64 (l : Int), .slice a m c] 26))
  obtain ⟨p, hp⟩ : ∃ p, p = i * s := ⟨_, rfl⟩
  rw [← hp] at HSp ⊢
  have d1 : decide ((i : Int) < 0) = false := by simp
  have d2 : decide ((m : Int) ≤ (i : Int)) = false := by simp; omega
  have d2' : decide (m ≤ i) = false := by simp; omega
  clear hf hz hmn hch hb hm hn hp e0 hi
  unfold sigV at HC HSp ⊢
  go_enter Tryd.func28, Tryd.ntmps28
  go_wp2_with fail
  generalize (w.alloc (.cells #[.int .i64 (s : Int), .int .i64 (k : Int), .int .i64 (l : Int), .slice a m c] 26)) = w1 at *
  refine HC.out.mono ?_
  rintro e w2 ⟨rfl, hb2⟩
  have HB2 := hide (keepB hb2 (Nat.le_refl _) HB.out)
  have HS2 := hide (below_blk hb2 (heap_lt HS.out) HS.out)
  clear hb2 HB HC HS
  obtain ⟨c0, c1, c2, c3⟩ := Sig4.cells (T := 26) HS2.out
  go_wp2_with fail
  refine (HSp.out _).mono ?_
  rintro e w3 ⟨rfl, hb3⟩
  have HB3 := hide (keepB hb3 (Nat.le_refl _) HB2.out)
  clear hb3 c0 c1 c2 c3
  go_wp2
  go_ret2
  exact ⟨rfl, HB3.out⟩
/-- What Make answers is right. -/
theorem mk_check (D : List Nat) (s k n : Nat) (l : Nat) (hf : fitsE (s : Int) (k : Int) (l : Int) = 0) (hn : cntZ l s = (n : Int)) : checkE s k l (mkB D s k n) = 0 := by
  unfold checkE
  rw [if_neg (by simpa using hf), if_neg (by rw [mkB_length, hn]; simp), if_pos]
  intro b hb
  obtain ⟨i, _, rfl⟩ := List.mem_map.1 hb
  have hz := fitsE_zero hf
  have hk : k ≤ 32 := by omega
  unfold Blk.clean blkOf
  simp only [Int.toNat_natCast]
  unfold cutL
  rw [List.take_append_of_le_length (by rw [List.length_take, sha_len]; omega), List.take_take, Nat.min_self]
end Go.Proofs.YtheambpddpfcfaaDoor.Kj
