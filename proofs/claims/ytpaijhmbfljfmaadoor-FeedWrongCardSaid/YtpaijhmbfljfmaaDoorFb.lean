/- A frame's bytes behind none, and behind a buffer. -/
import Derived.Test.YtpaijhmbfljfmaaDoorFa
namespace Go.Proofs.YtpaijhmbfljfmaaDoor.Fb
set_option linter.unusedVariables false
set_option linter.unusedSimpArgs false
set_option maxRecDepth 100000
open Go.ChangeShapes Go.WideShapes Go.ChangeAt Go.RowKit
open Go.Proofs.YtpaijhmbfljfmaaDoor.Wu Go.Proofs.YtpaijhmbfljfmaaDoor.Sm Go.Proofs.YtpaijhmbfljfmaaDoor.Sh Go.Proofs.YtpaijhmbfljfmaaDoor.Ba Go.Proofs.YtpaijhmbfljfmaaDoor.Bp Go.Proofs.YtpaijhmbfljfmaaDoor.Bq Go.Proofs.YtpaijhmbfljfmaaDoor.Bz Go.Proofs.YtpaijhmbfljfmaaDoor.Is Go.Proofs.YtpaijhmbfljfmaaDoor.Ig Go.Proofs.YtpaijhmbfljfmaaDoor.Ih Go.Proofs.YtpaijhmbfljfmaaDoor.Ij Go.Proofs.YtpaijhmbfljfmaaDoor.Cm Go.Proofs.YtpaijhmbfljfmaaDoor.Cn Go.Proofs.YtpaijhmbfljfmaaDoor.Cy Go.Proofs.YtpaijhmbfljfmaaDoor.Bk Go.Proofs.YtpaijhmbfljfmaaDoor.Fa
/-- slices.Insert into nil. -/
theorem insert_nil (vb m vc : Nat) (V : List Nat) (w : World) (hv : Dst w vb m vc V) (hm : 0 < m) (hbig : m ≤ 70368744177664) :
    Calls Tryd.prog 70 #[.slice none 0 0, .int .i64 0, .slice (some ⟨vb, 0, none⟩) m vc] w fun e w' => ∃ v', e = .returned v' ∧ Buf w' v' w.heap.size V ∧ Below w.heap.size w w' := by
  have HS := hide hv.src
  clear hv
  have e1 : ¬ ((m : Int) = 0) := by omega
  go_enter Tryd.func70, Tryd.ntmps70
  go_wp2_with (refine wpList_append_buf rfl _ _ rfl (.slice none 0 0) w.heap.size [] (some ⟨vb, 0, none⟩) m vc V rfl rfl (.inl ⟨rfl, rfl⟩) (Nat.le_refl _) HS.out (fun h => by cases h) (by simpa using hbig) hm ?_)
  all_goals
    intro v' w' HB HBl
    refine of_hid ?_
    go_wp2
    go_ret
    exact ⟨v', rfl, HB.out, HBl.out⟩
set_option maxHeartbeats 1600000 in
set_option maxRecDepth 100000 in
theorem append_nil (k s : Nat) (a : Option Addr) (l c : Nat) (D : List Nat) (w : World) (hs : SrcB w a l D) (hn : a = none → l = 0) (hk1 : 1 ≤ k) (hk2 : k ≤ 31) (hs2 : s ≤ 7) (hl : l ≤ 16384) (hlc : l ≤ c) :
    Calls Tryd.prog 29 #[.agg #[.int .i64 (k : Int), .int .i64 (s : Int), .slice a l c], .slice none 0 0] w fun e w' => ∃ v', e = .returned (.tuple #[v', .int .i64 0]) ∧ Buf w' v' w.heap.size (frL k s D) ∧ Below w.heap.size w w' := by
  have HC := hide (check_c (k : Int) (s : Int) a l c (w.alloc (.cells #[.int .i64 (k : Int), .int .i64 (s : Int), .slice a l c] 51)) (by omega))
  have hz : chk (k : Int) (s : Int) l = 0 := by unfold chk; rw [if_neg (by omega), if_neg (by omega), if_neg (by omega)]
  rw [hz] at HC
  clear hz
  have HS := hide hs
  clear hs
  go_enter Tryd.func29, Tryd.ntmps29
  go_wp2_with fail
  refine HC.out.mono ?_
  rintro e w1 ⟨rfl, hb⟩
  have HB := hide (keepB hb (Nat.le_refl _) (below_new w (.cells #[.int .i64 (k : Int), .int .i64 (s : Int), .slice a l c] 51)))
  have hblk := below_blk hb (by simp) (heap_last w (.cells #[.int .i64 (k : Int), .int .i64 (s : Int), .slice a l c] 51))
  have c0 : w1.cell? ⟨w.heap.size, 0, none⟩ = some (.int .i64 (k : Int)) := blk_cell hblk rfl
  have c1 : w1.cell? ⟨w.heap.size, 1, none⟩ = some (.int .i64 (s : Int)) := blk_cell hblk rfl
  have c2 : w1.cell? ⟨w.heap.size, 2, none⟩ = some (.slice a l c) := blk_cell hblk rfl
  have hx : 8 * (k : Int) + (s : Int) = ((8 * k + s : Nat) : Int) := by omega
  have Hx := hide hx
  have hw1 : w.heap.size < w1.heap.size := heap_lt hblk
  obtain ⟨u, hu⟩ : ∃ u, u = w1.alloc (.cells #[.int .u8 (8 * (k : Int) + (s : Int))] 5) := ⟨_, rfl⟩
  have hblk2 : u.heap[w.heap.size]? = some (.cells #[.int .i64 (k : Int), .int .i64 (s : Int), .slice a l c] 51 (0, 0)) := by rw [hu]; exact heap_old hblk _
  have e2 : (w1.alloc (.cells #[.int .u8 (8 * (k : Int) + (s : Int))] 5)).cell? ⟨w.heap.size, 2, none⟩ = some (.slice a l c) := by rw [← hu]; exact blk_cell hblk2 rfl
  have HBk := hide hblk2
  have HDx : Hid (Dst u w1.heap.size 1 1 [8 * k + s]) := by
    rw [hu, hx]
    exact hide (dst_new w1 [8 * k + s] #[] 5 (0, 0) rfl (by intro z hz; simp only [List.mem_singleton] at hz; omega) (by simp [maxLen]))
  have hbu : Below w1.heap.size w1 u := by rw [hu]; exact below_new w1 _
  have HBu := hide (keepB hbu (Nat.le_refl _) HB.out)
  have huz : w1.heap.size < u.heap.size := HDx.out.lt
  have Hu := hide hu
  clear HC hb hblk hblk2 hu hbu hx
  go_wp2_with fail
  rw [← Hu.out]
  have hDl := HS.out.1
  have h6 := numL_six l (by omega)
  have hpl := numL_pos l
  refine (num_c (.slice (some ⟨w1.heap.size, 0, none⟩) 1 1) w1.heap.size [8 * k + s] l u (.inr ⟨w1.heap.size, 1, rfl, Nat.le_refl _, HDx.out⟩) (by omega) (by omega) (by simp)).mono ?_
  rintro e w2 ⟨v, rfl, hb, hB⟩
  rcases hb with ⟨_, h0⟩ | ⟨vb, vc, rfl, hvb, hvd⟩
  · cases h0
  have HB2 := hide (HBu.out.trans (hB.mono (Nat.le_of_lt hw1)))
  have HV := hide hvd
  clear HDx hvd
  have hvz := HV.out.lt
  have hblk3 : w2.heap[w.heap.size]? = some (.cells #[.int .i64 (k : Int), .int .i64 (s : Int), .slice a l c] 51 (0, 0)) := (hB.block _ hw1).trans HBk.out
  have f2 : w2.cell? ⟨w.heap.size, 2, none⟩ = some (.slice a l c) := blk_cell hblk3 rfl
  have HB := hide hB
  have HS2 := hide (HS.out.below HB2.out)
  clear hB hblk3 c0 c1 c2 e2 HBk HBu Hu
  simp only [List.length_append, List.length_cons, List.length_nil, Nat.zero_add] at *
  have h12 := HB2.out.size
  have HVs := HV
  by_cases h0 : l = 0
  · subst h0
    have hD0 : D = [] := List.length_eq_zero_iff.1 hDl
    have HDn := hide hD0
    clear hD0
    cases a with
    | none =>
      go_wp2_with fail
      refine (insert_nil vb (1 + (numL 0).length) vc ([8 * k + s] ++ numL 0) w2 HV.out (by omega) (by omega)).mono ?_
      rintro e w4 ⟨v4, rfl, hb4, hB4⟩
      have HP : Hid (Buf w4 v4 w.heap.size (frL k s D) ∧ Below w.heap.size w w4) := by
        refine hide ⟨?_, HB2.out.trans (hB4.mono h12)⟩
        rw [HDn.out]
        unfold frL
        rw [List.append_nil]
        rcases hb4 with ⟨_, h⟩ | ⟨g4, c4, h1, h2, h3⟩
        · cases h
        · exact .inr ⟨g4, c4, h1, by omega, h3⟩
      clear hb4 hB4
      go_wp2
      go_ret2
      exact ⟨v4, rfl, HP.out⟩
    | some ad =>
      go_wp2_with fail
      refine (insert_nil vb (1 + (numL 0).length) vc ([8 * k + s] ++ numL 0) w2 HV.out (by omega) (by omega)).mono ?_
      rintro e w4 ⟨v4, rfl, hb4, hB4⟩
      have HP : Hid (Buf w4 v4 w.heap.size (frL k s D) ∧ Below w.heap.size w w4) := by
        refine hide ⟨?_, HB2.out.trans (hB4.mono h12)⟩
        rw [HDn.out]
        unfold frL
        rw [List.append_nil]
        rcases hb4 with ⟨_, h⟩ | ⟨g4, c4, h1, h2, h3⟩
        · cases h
        · exact .inr ⟨g4, c4, h1, by omega, h3⟩
      clear hb4 hB4
      go_wp2
      go_ret2
      exact ⟨v4, rfl, HP.out⟩
  · go_wp2_with (refine wpList_append_buf rfl _ _ rfl (.slice none 0 0) w2.heap.size [] a l c D rfl rfl (.inl ⟨rfl, rfl⟩) (Nat.le_refl _) HS2.out hn (by simp; omega) (by omega) ?_)
    intro v3 w3 HB3 HBl3
    refine of_hid ?_
    go_wp2_with fail
    obtain ⟨g3, c3, rfl, hg3, hd3⟩ : ∃ g3 c3, v3 = .slice (some ⟨g3, 0, none⟩) l c3 ∧ w2.heap.size ≤ g3 ∧ Dst w3 g3 l c3 D := by
      rcases HB3.out with ⟨_, h⟩ | ⟨g3, c3, h1, h2, h3⟩
      · rw [h] at hDl
        exact absurd hDl (by simp; omega)
      · rw [hDl] at h1 h3
        exact ⟨g3, c3, h1, h2, h3⟩
    have HD3 := hide hd3
    clear hd3
    have h23 := HBl3.out.size
    refine (insert_any g3 l c3 0 vb (1 + (numL l).length) vc [] D ([8 * k + s] ++ numL l) w3 HD3.out (HV.out.below HBl3.out hvz) (by omega) (by omega) rfl (by omega)).mono ?_
    rintro e w4 ⟨g', cap', rfl, hd4, hg4, hor⟩
    have HP : Hid (Buf w4 (.slice (some ⟨g', 0, none⟩) (l + (1 + (numL l).length)) cap') w.heap.size (frL k s D) ∧ Below w.heap.size w w4) := by
      have e : [] ++ ([8 * k + s] ++ numL l) ++ D = frL k s D := by unfold frL; rw [hDl]; simp
      rw [e] at hd4
      refine hide ⟨.inr ⟨g', cap', by rw [hd4.len], ?_, by rw [hd4.len]; exact hd4⟩, ?_⟩
      · rcases hor with rfl | h <;> omega
      · have h3 : Below w.heap.size w w3 := HB2.out.trans (HBl3.out.mono h12)
        exact belowG h3 hg4 (by omega) h3.size
    clear hd4 hg4 hor
    go_wp2
    go_ret2
    exact ⟨_, rfl, HP.out⟩
/-- A frame behind a buffer. -/
theorem append_buf (k s : Nat) (a : Option Addr) (l c N : Nat) (v : Value) (L D : List Nat) (w : World) (hb : Buf w v N L) (hN : N ≤ w.heap.size) (hs : SrcB w a l D) (hn : a = none → l = 0) (hi : L.length ≤ 1000000) (hk1 : 1 ≤ k) (hk2 : k ≤ 31) (hs2 : s ≤ 7) (hl : l ≤ 16384) (hlc : l ≤ c) :
    Calls Tryd.prog 29 #[.agg #[.int .i64 (k : Int), .int .i64 (s : Int), .slice a l c], v] w fun e w' => ∃ v', e = .returned (.tuple #[v', .int .i64 0]) ∧ Buf w' v' N (L ++ frL k s D) ∧ Below N w w' := by
  rcases hb with ⟨rfl, rfl⟩ | ⟨g, cap, rfl, hg, hd⟩
  · refine (append_nil k s a l c D w hs hn hk1 hk2 hs2 hl hlc).mono ?_
    rintro e w' ⟨v', rfl, hb, hB⟩
    refine ⟨v', rfl, ?_, hB.mono hN⟩
    rw [List.nil_append]
    rcases hb with h | ⟨g, cap, h1, h2, h3⟩
    · exact .inl h
    · exact .inr ⟨g, cap, h1, by omega, h3⟩
  · refine (append_ok k s a l c g L.length cap L D w hd hs hn hi hk1 hk2 hs2 hl hlc).mono ?_
    rintro e w' ⟨g', cap', n, rfl, h1, h2, h3⟩
    have := h1.len
    subst this
    refine ⟨_, rfl, .inr ⟨g', cap', rfl, ?_, h1⟩, belowG (Below.refl N w) h2 hg hN⟩
    rcases h3 with rfl | h3 <;> omega
end Go.Proofs.YtpaijhmbfljfmaaDoor.Fb
