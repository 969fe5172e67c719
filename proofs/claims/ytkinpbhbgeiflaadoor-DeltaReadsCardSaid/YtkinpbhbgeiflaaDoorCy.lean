/- code.Num at any number: held within the limits. -/
import Derived.Test.YtkinpbhbgeiflaaDoorQg
import Derived.Test.YtkinpbhbgeiflaaDoorQh
namespace Go.Proofs.YtkinpbhbgeiflaaDoor.Cy
set_option linter.unusedVariables false
set_option linter.unusedSimpArgs false
set_option maxRecDepth 100000
open Go.ChangeShapes Go.WideShapes Go.ChangeAt Go.RowKit
open Go.Proofs.YtkinpbhbgeiflaaDoor.Wu Go.Proofs.YtkinpbhbgeiflaaDoor.Sm Go.Proofs.YtkinpbhbgeiflaaDoor.Sh Go.Proofs.YtkinpbhbgeiflaaDoor.Ba Go.Proofs.YtkinpbhbgeiflaaDoor.Bp Go.Proofs.YtkinpbhbgeiflaaDoor.Bq Go.Proofs.YtkinpbhbgeiflaaDoor.Cm Go.Proofs.YtkinpbhbgeiflaaDoor.Cn

/-- A number held within the limits. -/
def cl (n : Int) : Nat := if n < 0 then 0 else if 1099511627776 < n then 1099511627776 else n.toNat
set_option maxHeartbeats 1600000 in
theorem num_neg (v : Value) (N : Nat) (L : List Nat) (z : Int) (n : Nat) (w : World) (hb : Buf w v N L) (hN : N ≤ w.heap.size) (hL : L.length ≤ 1000000) (hz : z < 0) (hnv : n = 0) :
    Calls Tryd.prog 61 #[v, .int .i64 z] w fun e w' => ∃ v', e = .returned v' ∧ Buf w' v' N (L ++ numL n) ∧ Below N w w' := by
  have HB := hide hb
  clear hb
  have hn : n ≤ 1099511627776 := by omega
  have HN := hide hnv
  clear hnv
  have d2 : ¬ (1099511627776 < z) := by omega
  have d3 := numL_six n hn
  go_enter Tryd.func61, Tryd.ntmps61
  go_wp2_with fail
  go_loopw [0, 1] (fun b m wr => ∃ (k : Nat) (cur : List Nat), m = .int .i64 (k : Int) ∧ k ≤ 1099511627776 ∧ Buf wr b N cur ∧ cur ++ numL k = L ++ numL n ∧ N ≤ wr.heap.size ∧ Below N w wr) (fun _ m _ => (intOf m).toNat)
  case atStart => exact ⟨n, L, by rw [HN.out]; rfl, hn, HB.out, rfl, hN, Below.refl _ _⟩
  case round =>
    clear HB
    obtain ⟨k, cur, rfl, hk, hb, he, hNr, hB⟩ := hrel
    have HBf := hide hb
    have HE := hide he
    have HB := hide hB
    have hcl : cur.length ≤ 2000000 := by
      have := congrArg List.length he
      rw [List.length_append, List.length_append] at this
      omega
    clear hb he hB
    by_cases hlt : k < 128
    · have hd : decide ((128 : Int) ≤ (k : Int)) = false := by simp; omega
      have HL := hide (numL_small k hlt)
      have HS := hide (src_one (heap_last wr (.cells #[.int .u8 (k : Int)] 5)) (by omega))
      have HB1 := hide (HBf.out.up (below_new wr (.cells #[.int .u8 (k : Int)] 5)))
      have HBl := hide (HB.out.alloc hNr (.cells #[.int .u8 (k : Int)] 5))
      have hN1 : N ≤ (wr.alloc (.cells #[.int .u8 (k : Int)] 5)).heap.size := by simp; omega
      clear HBf HB
      as_aux_lemma =>
        go_wp2_with (refine wpList_append_buf rfl (.tmp 19) (.tmp 22) rfl u0 N cur (some ⟨wr.heap.size, 0, none⟩) 1 1 [k] rfl rfl HB1.out hN1 HS.out (fun h => by cases h) (by omega) (by omega) ?_)
        intro v2 w2 HB2 HBl2
        refine of_hid ?_
        go_wp2
        go_ret
        refine ⟨v2, rfl, ?_, HBl.out.trans HBl2.out⟩
        rw [← HE.out, HL.out]
        exact HB2.out
    · have hd : decide ((128 : Int) ≤ (k : Int)) = true := by simp; omega
      have HL := hide (numL_big k hlt)
      obtain ⟨x, hx⟩ : ∃ x, x = k % 128 + 128 := ⟨_, rfl⟩
      have hx8 : x < 256 := by omega
      have hxe : (k : Int) % 128 + 128 = (x : Int) := by omega
      have HX := hide hx
      clear hx
      have HS := hide (src_one (heap_last wr (.cells #[.int .u8 (x : Int)] 5)) hx8)
      have HB1 := hide (HBf.out.up (below_new wr (.cells #[.int .u8 (x : Int)] 5)))
      have HBl := hide (HB.out.alloc hNr (.cells #[.int .u8 (x : Int)] 5))
      have hN1 : N ≤ (wr.alloc (.cells #[.int .u8 (x : Int)] 5)).heap.size := by simp; omega
      clear HBf HB
      as_aux_lemma =>
        go_wp2_with (refine wpList_append_buf rfl (.tmp 10) (.tmp 15) rfl u0 N cur (some ⟨wr.heap.size, 0, none⟩) 1 1 [x] rfl rfl HB1.out hN1 HS.out (fun h => by cases h) (by omega) (by omega) ?_)
        intro v2 w2 HB2 HBl2
        refine of_hid ?_
        clear hxe
        go_wp2
        go_roundw
        case rel =>
          refine ⟨k / 128, cur ++ [x], congrArg (Value.int .i64) (by omega), by omega, HB2.out, ?_, Nat.le_trans hN1 HBl2.out.size, HBl.out.trans HBl2.out⟩
          rw [← HE.out, HL.out, HX.out]
          simp
        case measure => simp [intOf]; omega
set_option maxHeartbeats 1600000 in
theorem num_big (v : Value) (N : Nat) (L : List Nat) (z : Int) (n : Nat) (w : World) (hb : Buf w v N L) (hN : N ≤ w.heap.size) (hL : L.length ≤ 1000000) (hz : 1099511627776 < z) (hnv : n = 1099511627776) :
    Calls Tryd.prog 61 #[v, .int .i64 z] w fun e w' => ∃ v', e = .returned v' ∧ Buf w' v' N (L ++ numL n) ∧ Below N w w' := by
  have HB := hide hb
  clear hb
  have hn : n ≤ 1099511627776 := by omega
  have HN := hide hnv
  clear hnv
  have d1 : ¬ (z < 0) := by omega
  have d3 := numL_six n hn
  go_enter Tryd.func61, Tryd.ntmps61
  go_wp2_with fail
  go_loopw [0, 1] (fun b m wr => ∃ (k : Nat) (cur : List Nat), m = .int .i64 (k : Int) ∧ k ≤ 1099511627776 ∧ Buf wr b N cur ∧ cur ++ numL k = L ++ numL n ∧ N ≤ wr.heap.size ∧ Below N w wr) (fun _ m _ => (intOf m).toNat)
  case atStart => exact ⟨n, L, by rw [HN.out]; rfl, hn, HB.out, rfl, hN, Below.refl _ _⟩
  case round =>
    clear HB
    obtain ⟨k, cur, rfl, hk, hb, he, hNr, hB⟩ := hrel
    have HBf := hide hb
    have HE := hide he
    have HB := hide hB
    have hcl : cur.length ≤ 2000000 := by
      have := congrArg List.length he
      rw [List.length_append, List.length_append] at this
      omega
    clear hb he hB
    by_cases hlt : k < 128
    · have hd : decide ((128 : Int) ≤ (k : Int)) = false := by simp; omega
      have HL := hide (numL_small k hlt)
      have HS := hide (src_one (heap_last wr (.cells #[.int .u8 (k : Int)] 5)) (by omega))
      have HB1 := hide (HBf.out.up (below_new wr (.cells #[.int .u8 (k : Int)] 5)))
      have HBl := hide (HB.out.alloc hNr (.cells #[.int .u8 (k : Int)] 5))
      have hN1 : N ≤ (wr.alloc (.cells #[.int .u8 (k : Int)] 5)).heap.size := by simp; omega
      clear HBf HB
      as_aux_lemma =>
        go_wp2_with (refine wpList_append_buf rfl (.tmp 19) (.tmp 22) rfl u0 N cur (some ⟨wr.heap.size, 0, none⟩) 1 1 [k] rfl rfl HB1.out hN1 HS.out (fun h => by cases h) (by omega) (by omega) ?_)
        intro v2 w2 HB2 HBl2
        refine of_hid ?_
        go_wp2
        go_ret
        refine ⟨v2, rfl, ?_, HBl.out.trans HBl2.out⟩
        rw [← HE.out, HL.out]
        exact HB2.out
    · have hd : decide ((128 : Int) ≤ (k : Int)) = true := by simp; omega
      have HL := hide (numL_big k hlt)
      obtain ⟨x, hx⟩ : ∃ x, x = k % 128 + 128 := ⟨_, rfl⟩
      have hx8 : x < 256 := by omega
      have hxe : (k : Int) % 128 + 128 = (x : Int) := by omega
      have HX := hide hx
      clear hx
      have HS := hide (src_one (heap_last wr (.cells #[.int .u8 (x : Int)] 5)) hx8)
      have HB1 := hide (HBf.out.up (below_new wr (.cells #[.int .u8 (x : Int)] 5)))
      have HBl := hide (HB.out.alloc hNr (.cells #[.int .u8 (x : Int)] 5))
      have hN1 : N ≤ (wr.alloc (.cells #[.int .u8 (x : Int)] 5)).heap.size := by simp; omega
      clear HBf HB
      as_aux_lemma =>
        go_wp2_with (refine wpList_append_buf rfl (.tmp 10) (.tmp 15) rfl u0 N cur (some ⟨wr.heap.size, 0, none⟩) 1 1 [x] rfl rfl HB1.out hN1 HS.out (fun h => by cases h) (by omega) (by omega) ?_)
        intro v2 w2 HB2 HBl2
        refine of_hid ?_
        clear hxe
        go_wp2
        go_roundw
        case rel =>
          refine ⟨k / 128, cur ++ [x], congrArg (Value.int .i64) (by omega), by omega, HB2.out, ?_, Nat.le_trans hN1 HBl2.out.size, HBl.out.trans HBl2.out⟩
          rw [← HE.out, HL.out, HX.out]
          simp
        case measure => simp [intOf]; omega
theorem num_any (v : Value) (N : Nat) (L : List Nat) (z : Int) (w : World) (hb : Buf w v N L) (hN : N ≤ w.heap.size) (hL : L.length ≤ 1000000) :
    Calls Tryd.prog 61 #[v, .int .i64 z] w fun e w' => ∃ v', e = .returned v' ∧ Buf w' v' N (L ++ numL (cl z)) ∧ Below N w w' := by
  by_cases h1 : z < 0
  · exact num_neg v N L z (cl z) w hb hN hL h1 (by simp [cl, h1])
  · by_cases h2 : 1099511627776 < z
    · exact num_big v N L z (cl z) w hb hN hL h2 (by simp [cl, h1, h2])
    · obtain ⟨n, rfl⟩ := Int.eq_ofNat_of_zero_le (show 0 ≤ z by omega)
      have e : cl (n : Int) = n := by simp [cl, h2]; omega
      rw [e]
      exact num_c v N L n w hb hN (by omega) hL
end Go.Proofs.YtkinpbhbgeiflaaDoor.Cy
