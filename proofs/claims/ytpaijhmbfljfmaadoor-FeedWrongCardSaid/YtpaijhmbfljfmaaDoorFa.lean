/- A frame: whether it can be; its bytes behind others. -/
import Derived.Test.YtpaijhmbfljfmaaDoorIj
import Derived.Test.YtpaijhmbfljfmaaDoorBk
namespace Go.Proofs.YtpaijhmbfljfmaaDoor.Fa
set_option linter.unusedVariables false
set_option linter.unusedSimpArgs false
set_option maxRecDepth 100000
open Go.ChangeShapes Go.WideShapes Go.ChangeAt Go.RowKit
open Go.Proofs.YtpaijhmbfljfmaaDoor.Wu Go.Proofs.YtpaijhmbfljfmaaDoor.Sm Go.Proofs.YtpaijhmbfljfmaaDoor.Sh Go.Proofs.YtpaijhmbfljfmaaDoor.Ba Go.Proofs.YtpaijhmbfljfmaaDoor.Bp Go.Proofs.YtpaijhmbfljfmaaDoor.Bq Go.Proofs.YtpaijhmbfljfmaaDoor.Bz Go.Proofs.YtpaijhmbfljfmaaDoor.Is Go.Proofs.YtpaijhmbfljfmaaDoor.Ig Go.Proofs.YtpaijhmbfljfmaaDoor.Ih Go.Proofs.YtpaijhmbfljfmaaDoor.Ij Go.Proofs.YtpaijhmbfljfmaaDoor.Cm Go.Proofs.YtpaijhmbfljfmaaDoor.Cn Go.Proofs.YtpaijhmbfljfmaaDoor.Cy Go.Proofs.YtpaijhmbfljfmaaDoor.Bk
/-- A frame's error's number. -/
def chk (k s : Int) (l : Nat) : Int := if k < 1 ∨ 31 < k then 40 else if s < 0 ∨ 7 < s then 1 else if 16384 < l then 2 else 0
set_option maxHeartbeats 1600000 in
theorem check_c (k s : Int) (a : Option Addr) (l c : Nat) (w : World) (hl : l ≤ 9223372036854775807) :
    Calls Tryd.prog 69 #[.agg #[.int .i64 k, .int .i64 s, .slice a l c]] w fun e w' => e = .returned (.int .i64 (chk k s l)) ∧ Below w.heap.size w w' := by
  by_cases h1 : k < 1
  · have d1 : decide (k < 1) = true := by simp [h1]
    have HC : Hid (chk k s l = 40) := hide (by simp [chk, h1])
    go_enter Tryd.func69, Tryd.ntmps69
    go_wp2
    go_ret
    exact ⟨by rw [HC.out]; rfl, below_new w _⟩
  · have d1 : decide (k < 1) = false := by simp; omega
    by_cases h2 : 31 < k
    · have d2 : decide (31 < k) = true := by simp [h2]
      have HC : Hid (chk k s l = 40) := hide (by simp [chk, h2])
      go_enter Tryd.func69, Tryd.ntmps69
      go_wp2
      go_ret
      exact ⟨by rw [HC.out]; rfl, below_new w _⟩
    · have d2 : decide (31 < k) = false := by simp; omega
      by_cases h3 : s < 0
      · have d3 : decide (s < 0) = true := by simp [h3]
        have HC : Hid (chk k s l = 1) := hide (by simp [chk, h1, h2, h3])
        go_enter Tryd.func69, Tryd.ntmps69
        go_wp2
        go_ret
        exact ⟨by rw [HC.out]; rfl, below_new w _⟩
      · have d3 : decide (s < 0) = false := by simp; omega
        by_cases h4 : 7 < s
        · have d4 : decide (7 < s) = true := by simp [h4]
          have HC : Hid (chk k s l = 1) := hide (by simp [chk, h1, h2, h4])
          go_enter Tryd.func69, Tryd.ntmps69
          go_wp2
          go_ret
          exact ⟨by rw [HC.out]; rfl, below_new w _⟩
        · have d4 : decide (7 < s) = false := by simp; omega
          by_cases h5 : 16384 < l
          · have d5 : decide ((16384 : Int) < (l : Int)) = true := by simp; omega
            have d5' : decide (16384 < l) = true := by simp; omega
            have HC : Hid (chk k s l = 2) := hide (by simp [chk, h1, h2, h3, h4, h5])
            go_enter Tryd.func69, Tryd.ntmps69
            go_wp2
            go_ret
            exact ⟨by rw [HC.out]; rfl, below_new w _⟩
          · have d5 : decide ((16384 : Int) < (l : Int)) = false := by simp; omega
            have d5' : decide (16384 < l) = false := by simp; omega
            have HC : Hid (chk k s l = 0) := hide (by simp [chk, h1, h2, h3, h4, h5])
            go_enter Tryd.func69, Tryd.ntmps69
            go_wp2
            go_ret
            exact ⟨by rw [HC.out]; rfl, below_new w _⟩
theorem insert_any (g n cap i vb m vc : Nat) (A S V : List Nat) (w : World) (hd : Dst w g n cap (A ++ S)) (hv : Dst w vb m vc V) (hne : vb ≠ g) (hm : 0 < m) (hi : A.length = i) (hbig : n + m ≤ 70368744177664) :
    Calls Tryd.prog 70 #[.slice (some ⟨g, 0, none⟩) n cap, .int .i64 (i : Int), .slice (some ⟨vb, 0, none⟩) m vc] w fun e w' => ∃ g' cap', e = .returned (.slice (some ⟨g', 0, none⟩) (n + m) cap') ∧ Dst w' g' (n + m) cap' (A ++ V ++ S) ∧ w.grownBy w' (some g) ∧ (g' = g ∨ w.heap.size ≤ g') := by
  have hl := hd.len
  rw [List.length_append] at hl
  by_cases h : i < n
  · refine (insert_mid g n cap i vb m vc A S V w hd hv hne hm hi h hbig).mono ?_
    rintro e w' ⟨g', cap', rfl, h1, h2, h3, _⟩
    exact ⟨g', cap', rfl, h1, h2, h3⟩
  · obtain rfl : S = [] := List.length_eq_zero_iff.1 (by omega)
    rw [List.append_nil] at hd
    obtain rfl : i = n := by rw [← hi]; exact hd.len
    refine (insert_end g i cap vb m vc A V w hd hv hm hbig).mono ?_
    rintro e w' ⟨g', cap', rfl, h1, h2, h3, _⟩
    refine ⟨g', cap', rfl, by rw [List.append_nil]; exact h1, h2, ?_⟩
    rcases h3 with h3 | h3
    · exact .inl h3
    · exact .inr (by omega)
/-- A frame's bytes. -/
def frL (k s : Nat) (D : List Nat) : List Nat := (8 * k + s) :: numL D.length ++ D
theorem append_bad (k s : Int) (a : Option Addr) (l c : Nat) (v : Value) (w : World) (hl : l ≤ 9223372036854775807) (hk : chk k s l ≠ 0) :
    Calls Tryd.prog 29 #[.agg #[.int .i64 k, .int .i64 s, .slice a l c], v] w fun e w' => e = .returned (.tuple #[.slice none 0 0, .int .i64 (chk k s l)]) ∧ Below w.heap.size w w' := by
  have HC := hide (check_c k s a l c (w.alloc (.cells #[.int .i64 k, .int .i64 s, .slice a l c] 51)) hl)
  go_enter Tryd.func29, Tryd.ntmps29
  go_wp2_with fail
  refine HC.out.mono ?_
  rintro e w1 ⟨rfl, hb⟩
  have HB := hide (keepB hb (Nat.le_refl _) (below_new w (.cells #[.int .i64 k, .int .i64 s, .slice a l c] 51)))
  clear HC hb
  obtain ⟨z, hz⟩ : ∃ z, z = chk k s l := ⟨_, rfl⟩
  rw [← hz] at hk ⊢
  have Hz := hide hz
  clear hz
  go_wp2
  go_ret2
  exact ⟨by rw [← Hz.out]; rfl, HB.out⟩
set_option maxHeartbeats 1600000 in
set_option maxRecDepth 100000 in
theorem append_ok (k s : Nat) (a : Option Addr) (l c g i cap : Nat) (A D : List Nat) (w : World) (hd : Dst w g i cap A) (hs : SrcB w a l D) (hn : a = none → l = 0) (hi : i ≤ 1000000) (hk1 : 1 ≤ k) (hk2 : k ≤ 31) (hs2 : s ≤ 7) (hl : l ≤ 16384) (hlc : l ≤ c) :
    Calls Tryd.prog 29 #[.agg #[.int .i64 (k : Int), .int .i64 (s : Int), .slice a l c], .slice (some ⟨g, 0, none⟩) i cap] w fun e w' => ∃ g' cap' n, e = .returned (.tuple #[.slice (some ⟨g', 0, none⟩) n cap', .int .i64 0]) ∧ Dst w' g' n cap' (A ++ frL k s D) ∧ w.grownBy w' (some g) ∧ (g' = g ∨ w.heap.size ≤ g') := by
  have HC := hide (check_c (k : Int) (s : Int) a l c (w.alloc (.cells #[.int .i64 (k : Int), .int .i64 (s : Int), .slice a l c] 51)) (by omega))
  have hz : chk (k : Int) (s : Int) l = 0 := by unfold chk; rw [if_neg (by omega), if_neg (by omega), if_neg (by omega)]
  rw [hz] at HC
  clear hz
  have HD := hide hd
  have HS := hide hs
  clear hd hs
  go_enter Tryd.func29, Tryd.ntmps29
  go_wp2_with fail
  refine HC.out.mono ?_
  rintro e w1 ⟨rfl, hb⟩
  have HB := hide (keepB hb (Nat.le_refl _) (below_new w (.cells #[.int .i64 (k : Int), .int .i64 (s : Int), .slice a l c] 51)))
  have hblk := below_blk hb (by simp) (heap_last w (.cells #[.int .i64 (k : Int), .int .i64 (s : Int), .slice a l c] 51))
  have c0 : w1.cell? ⟨w.heap.size, 0, none⟩ = some (.int .i64 (k : Int)) := blk_cell hblk rfl
  have c1 : w1.cell? ⟨w.heap.size, 1, none⟩ = some (.int .i64 (s : Int)) := blk_cell hblk rfl
  have c2 : w1.cell? ⟨w.heap.size, 2, none⟩ = some (.slice a l c) := blk_cell hblk rfl
  have hx : 8 * (k : Int) + (s : Int) = ((8 * k + s : Nat) : Int) := by omega
  have Hx := hide hx
  have hw1 : w.heap.size < w1.heap.size := heap_lt hblk
  obtain ⟨u, hu⟩ : ∃ u, u = w1.alloc (.cells #[.int .u8 (8 * (k : Int) + (s : Int))] 5) := ⟨_, rfl⟩
  have hblk2 : u.heap[w.heap.size]? = some (.cells #[.int .i64 (k : Int), .int .i64 (s : Int), .slice a l c] 51 (0, 0)) := by rw [hu]; exact heap_old hblk _
  have e2 : (w1.alloc (.cells #[.int .u8 (8 * (k : Int) + (s : Int))] 5)).cell? ⟨w.heap.size, 2, none⟩ = some (.slice a l c) := by rw [← hu]; exact blk_cell hblk2 rfl
  have HBk := hide hblk2
  have HDx : Hid (Dst u w1.heap.size 1 1 [8 * k + s]) := by
    rw [hu, hx]
    exact hide (dst_new w1 [8 * k + s] #[] 5 (0, 0) rfl (by intro z hz; simp only [List.mem_singleton] at hz; omega) (by simp [maxLen]))
  have hbu : Below w1.heap.size w1 u := by rw [hu]; exact below_new w1 _
  have HBu := hide (keepB hbu (Nat.le_refl _) HB.out)
  have huz : w1.heap.size < u.heap.size := HDx.out.lt
  have Hu := hide hu
  clear HC hb hblk hblk2 hu hbu hx
  go_wp2_with fail
  rw [← Hu.out]
  have hgw := HD.out.lt
  have hDl := HS.out.1
  have hAl := HD.out.len
  have h6 := numL_six l (by omega)
  have hpl := numL_pos l
  refine (num_c (.slice (some ⟨w1.heap.size, 0, none⟩) 1 1) w1.heap.size [8 * k + s] l u (.inr ⟨w1.heap.size, 1, rfl, Nat.le_refl _, HDx.out⟩) (by omega) (by omega) (by simp)).mono ?_
  rintro e w2 ⟨v, rfl, hb, hB⟩
  rcases hb with ⟨_, h0⟩ | ⟨vb, vc, rfl, hvb, hvd⟩
  · cases h0
  have HB2 := hide (HBu.out.trans (hB.mono (Nat.le_of_lt hw1)))
  have HV := hide hvd
  clear HDx hvd
  have hvz := HV.out.lt
  have hblk3 : w2.heap[w.heap.size]? = some (.cells #[.int .i64 (k : Int), .int .i64 (s : Int), .slice a l c] 51 (0, 0)) := (hB.block _ hw1).trans HBk.out
  have f2 : w2.cell? ⟨w.heap.size, 2, none⟩ = some (.slice a l c) := blk_cell hblk3 rfl
  have HB := hide hB
  have HD2 := hide (HD.out.below HB2.out HD.out.lt)
  have HS2 := hide (HS.out.below HB2.out)
  clear hB hblk3 c0 c1 c2 e2 HBk HBu Hu HD
  simp only [List.length_append, List.length_cons, List.length_nil, Nat.zero_add] at *
  go_wp2_with (refine wpList_append_dst rfl _ _ rfl g i cap A a l c D rfl rfl HD2.out HS2.out (by omega) hn ?_)
  intro g1 cap1 w3 HD3 HG3 hgg HK3
  refine of_hid ?_
  go_wp2_with fail
  have hne : vb ≠ g1 := by rcases hgg with h | h <;> omega
  refine (insert_any g1 (i + l) cap1 i vb (1 + (numL l).length) vc A D ([8 * k + s] ++ numL l) w3 HD3.out (HV.out.kept HG3.out (by omega)) hne (by omega) hAl (by omega)).mono ?_
  rintro e w4 ⟨g', cap', rfl, hd4, hg4, hor⟩
  have h23 := HG3.out.size
  have h12 := HB2.out.size
  have HP : Hid (Dst w4 g' (i + l + (1 + (numL l).length)) cap' (A ++ frL k s D) ∧ w.grownBy w4 (some g) ∧ (g' = g ∨ w.heap.size ≤ g')) := by
    refine hide ⟨?_, ?_, ?_⟩
    · unfold frL
      rw [hDl]
      have e : A ++ ([8 * k + s] ++ numL l) ++ D = A ++ ((8 * k + s) :: numL l ++ D) := by simp
      rw [← e]
      exact hd4
    · refine ⟨hg4.os.trans (HG3.out.os.trans HB2.out.os), hg4.tape.trans (HG3.out.tape.trans HB2.out.tape), hg4.output.trans (HG3.out.output.trans HB2.out.output), Nat.le_trans h12 (Nat.le_trans h23 hg4.size), fun q hq hne' => ?_⟩
      have hne2 : some q ≠ some g1 := by
        rcases hgg with rfl | rfl
        · exact hne'
        · intro e; injection e with e; omega
      exact (hg4.block q (by omega) hne2).trans ((HG3.out.block q (by omega) hne').trans (HB2.out.block q hq))
    · rcases hor with rfl | h
      · rcases hgg with rfl | rfl
        · exact .inl rfl
        · exact .inr h12
      · exact .inr (by omega)
  clear hd4 hg4 hor
  go_wp2
  go_ret2
  exact ⟨g', cap', _, rfl, HP.out⟩
end Go.Proofs.YtpaijhmbfljfmaaDoor.Fa
