/- A frame behind a slice without room. -/
import Derived.Test.YtpaijhmbfljfmaaDoorFa
namespace Go.Proofs.YtpaijhmbfljfmaaDoor.Fw
set_option linter.unusedVariables false
set_option linter.unusedSimpArgs false
set_option maxRecDepth 100000
open Go.ChangeShapes Go.WideShapes Go.ChangeAt Go.RowKit
open Go.Proofs.YtpaijhmbfljfmaaDoor.Wu Go.Proofs.YtpaijhmbfljfmaaDoor.Sm Go.Proofs.YtpaijhmbfljfmaaDoor.Sh Go.Proofs.YtpaijhmbfljfmaaDoor.Ba Go.Proofs.YtpaijhmbfljfmaaDoor.Bp Go.Proofs.YtpaijhmbfljfmaaDoor.Bq Go.Proofs.YtpaijhmbfljfmaaDoor.Bz Go.Proofs.YtpaijhmbfljfmaaDoor.Is Go.Proofs.YtpaijhmbfljfmaaDoor.Ig Go.Proofs.YtpaijhmbfljfmaaDoor.Ih Go.Proofs.YtpaijhmbfljfmaaDoor.Ij Go.Proofs.YtpaijhmbfljfmaaDoor.Cm Go.Proofs.YtpaijhmbfljfmaaDoor.Cn Go.Proofs.YtpaijhmbfljfmaaDoor.Cy Go.Proofs.YtpaijhmbfljfmaaDoor.Bk Go.Proofs.YtpaijhmbfljfmaaDoor.Fa
set_option maxRecDepth 100000 in
/-- append to a slice without room. -/
theorem append_full (w : World) (ty : TypeId) (g n : Nat) (L : List Nat) (A : Option Addr) (m c : Nat) (L' : List Nat) (hd : SrcB w (some ⟨g, 0, none⟩) n L) (hn : 0 < n) (hs : SrcB w A m L') (hm : 0 < m) (hbig : n + m ≤ 70368744177664) (hc : A = none → m = 0) :
    ∃ cap' w', (Builtin.append_ #[31, 31] ty #[.slice (some ⟨g, 0, none⟩) n n, .slice A m c]).run Tryd.prog w = .ok (.slice (some ⟨w.heap.size, 0, none⟩) (n + m) cap') w' ∧
      Dst w' w.heap.size (n + m) cap' (L ++ L') ∧ Below w.heap.size w w' := by
  obtain ⟨i0, hi0, hz0, hz1, hz2⟩ := info_parts info_bs
  obtain ⟨hl, h8, b, off, ha, hcell⟩ := hs
  obtain ⟨hl0, h80, b0, off0, ha0, hcell0⟩ := hd
  have e0 := ha0 hn
  injection e0 with e0
  injection e0 with e01 e02
  subst e01 e02
  cases A with
  | none => have := hc rfl; omega
  | some ad =>
    have hnews : ∀ j u, (b8 L')[j]? = some u → w.cell? (ad.add j) = some u := by
      intro j u hu
      obtain ⟨hj, rfl⟩ := b8_at hu
      have := ha (by omega)
      injection this with this
      subst this
      rw [Addr.add_mid]
      exact hcell j (by omega)
    have hr := run_append_grow (P := Tryd.prog) w 31 ty 5 i0 (.int .u8 0) Tryd.underlying31 hi0 hz0 ⟨g, 0, none⟩ n n (b8 L) (by rw [b8_length, hl0, hz1, Nat.mul_one]) (fun j v hv => by
      obtain ⟨hj, rfl⟩ := b8_at hv
      rw [Addr.add_mid]; exact hcell0 j (by omega)) ad m c (b8 L') (by rw [b8_length, hl, hz1, Nat.mul_one]) hnews (by omega) (by omega) (growslice_fits (by omega) (by rw [hz2]; omega))
    have hge := grownCap_ge w (n + m) n 5
    have hle := grownCap_le_maxLen w (n + m) n 5 (by unfold maxLen; omega)
    generalize grownCap w (n + m) n 5 = q at hr hge hle
    have hzs : (Builtin.zeroCells (Value.int .u8 0).cells (q - (n + m))).size = q - (n + m) := by rw [size_zeroCells]; simp [Value.cells]
    generalize Builtin.zeroCells (Value.int .u8 0).cells (q - (n + m)) = Z at hr hzs
    have e : (b8 L).toArray ++ (b8 L').toArray = (b8 (L ++ L')).toArray := by unfold b8; rw [List.map_append]; simp
    rw [e] at hr
    have hn := dst_new w.drew (L ++ L') Z 5 (0, 0) rfl (all8_append h80 h8) (by rw [List.length_append, hl0, hl, hzs]; omega)
    rw [List.length_append, hl0, hl, hzs, show n + m + (q - (n + m)) = q by omega] at hn
    exact ⟨q, _, hr, hn, ⟨rfl, rfl, rfl, by simp, fun k hk => Below.heap_alloc w.drew _ k hk⟩⟩
theorem wpList_append_full {w : World} {ops : Array Oper} {rest : List Oper} {o : Oper} {a : Act} {Q : Exit → Act → World → Prop} (hgd : o.guard = none) (s x : Operand)
    (ho : o.op = .call { callee := .builtin .append, args := #[s, x], argTypes := #[31, 31] }) (g n : Nat) (L : List Nat) (A : Option Addr) (m c : Nat) (L' : List Nat)
    (hs : a.eval s = .slice (some ⟨g, 0, none⟩) n n) (hx : a.eval x = .slice A m c) (hd : SrcB w (some ⟨g, 0, none⟩) n L) (hn : 0 < n) (hsrc : SrcB w A m L') (hm : 0 < m) (hbig : n + m ≤ 70368744177664) (hc : A = none → m = 0)
    (h : ∀ cap' w', Hid (Dst w' w.heap.size (n + m) cap' (L ++ L')) → Hid (Below w.heap.size w w') → Hid (wpList Tryd.prog ops Q rest (a.put o.dst (.slice (some ⟨w.heap.size, 0, none⟩) (n + m) cap')) w')) : wpList Tryd.prog ops Q (o :: rest) a w := by
  obtain ⟨cap', w', hrun, h1, h2⟩ := append_full w o.type g n L A m c L' hd hn hsrc hm hbig hc
  refine wpList_plain hgd fun K hK => ?_
  unfold Oper.wp
  simp [execOp, ho, resolve, invoke, builtin, hs, hx, hrun, Result.andThen]
  exact hK _ _ (h cap' w' h1 h2)
set_option maxHeartbeats 1600000 in
set_option maxRecDepth 100000 in
theorem append_front (k s : Nat) (a : Option Addr) (l c g i : Nat) (A D : List Nat) (w : World) (hd : SrcB w (some ⟨g, 0, none⟩) i A) (hi0 : 0 < i) (hl0 : 0 < l) (hs : SrcB w a l D) (hn : a = none → l = 0) (hi : i ≤ 1000000) (hk1 : 1 ≤ k) (hk2 : k ≤ 31) (hs2 : s ≤ 7) (hl : l ≤ 16384) (hlc : l ≤ c) :
    Calls Tryd.prog 29 #[.agg #[.int .i64 (k : Int), .int .i64 (s : Int), .slice a l c], .slice (some ⟨g, 0, none⟩) i i] w fun e w' => ∃ g' cap' n, e = .returned (.tuple #[.slice (some ⟨g', 0, none⟩) n cap', .int .i64 0]) ∧ Dst w' g' n cap' (A ++ frL k s D) ∧ Below w.heap.size w w' ∧ w.heap.size ≤ g' := by
  have HC := hide (check_c (k : Int) (s : Int) a l c (w.alloc (.cells #[.int .i64 (k : Int), .int .i64 (s : Int), .slice a l c] 51)) (by omega))
  have hz : chk (k : Int) (s : Int) l = 0 := by unfold chk; rw [if_neg (by omega), if_neg (by omega), if_neg (by omega)]
  rw [hz] at HC
  clear hz
  have HD := hide hd
  have HS := hide hs
  clear hd hs
  go_enter Tryd.func29, Tryd.ntmps29
  go_wp2_with fail
  refine HC.out.mono ?_
  rintro e w1 ⟨rfl, hb⟩
  have HB := hide (keepB hb (Nat.le_refl _) (below_new w (.cells #[.int .i64 (k : Int), .int .i64 (s : Int), .slice a l c] 51)))
  have hblk := below_blk hb (by simp) (heap_last w (.cells #[.int .i64 (k : Int), .int .i64 (s : Int), .slice a l c] 51))
  have c0 : w1.cell? ⟨w.heap.size, 0, none⟩ = some (.int .i64 (k : Int)) := blk_cell hblk rfl
  have c1 : w1.cell? ⟨w.heap.size, 1, none⟩ = some (.int .i64 (s : Int)) := blk_cell hblk rfl
  have c2 : w1.cell? ⟨w.heap.size, 2, none⟩ = some (.slice a l c) := blk_cell hblk rfl
  have hx : 8 * (k : Int) + (s : Int) = ((8 * k + s : Nat) : Int) := by omega
  have Hx := hide hx
  have hw1 : w.heap.size < w1.heap.size := heap_lt hblk
  obtain ⟨u, hu⟩ : ∃ u, u = w1.alloc (.cells #[.int .u8 (8 * (k : Int) + (s : Int))] 5) := ⟨_, rfl⟩
  have hblk2 : u.heap[w.heap.size]? = some (.cells #[.int .i64 (k : Int), .int .i64 (s : Int), .slice a l c] 51 (0, 0)) := by rw [hu]; exact heap_old hblk _
  have e2 : (w1.alloc (.cells #[.int .u8 (8 * (k : Int) + (s : Int))] 5)).cell? ⟨w.heap.size, 2, none⟩ = some (.slice a l c) := by rw [← hu]; exact blk_cell hblk2 rfl
  have HBk := hide hblk2
  have HDx : Hid (Dst u w1.heap.size 1 1 [8 * k + s]) := by
    rw [hu, hx]
    exact hide (dst_new w1 [8 * k + s] #[] 5 (0, 0) rfl (by intro z hz; simp only [List.mem_singleton] at hz; omega) (by simp [maxLen]))
  have hbu : Below w1.heap.size w1 u := by rw [hu]; exact below_new w1 _
  have HBu := hide (keepB hbu (Nat.le_refl _) HB.out)
  have huz : w1.heap.size < u.heap.size := HDx.out.lt
  have Hu := hide hu
  clear HC hb hblk hblk2 hu hbu hx
  go_wp2_with fail
  rw [← Hu.out]
  have hDl := HS.out.1
  have hAl := HD.out.1
  have h6 := numL_six l (by omega)
  have hpl := numL_pos l
  refine (num_c (.slice (some ⟨w1.heap.size, 0, none⟩) 1 1) w1.heap.size [8 * k + s] l u (.inr ⟨w1.heap.size, 1, rfl, Nat.le_refl _, HDx.out⟩) (by omega) (by omega) (by simp)).mono ?_
  rintro e w2 ⟨v, rfl, hb, hB⟩
  rcases hb with ⟨_, h0⟩ | ⟨vb, vc, rfl, hvb, hvd⟩
  · cases h0
  have HB2 := hide (HBu.out.trans (hB.mono (Nat.le_of_lt hw1)))
  have HV := hide hvd
  clear HDx hvd
  have hvz := HV.out.lt
  have hblk3 : w2.heap[w.heap.size]? = some (.cells #[.int .i64 (k : Int), .int .i64 (s : Int), .slice a l c] 51 (0, 0)) := (hB.block _ hw1).trans HBk.out
  have f2 : w2.cell? ⟨w.heap.size, 2, none⟩ = some (.slice a l c) := blk_cell hblk3 rfl
  have HB := hide hB
  have HD2 := hide (HD.out.below HB2.out)
  have HS2 := hide (HS.out.below HB2.out)
  clear hB hblk3 c0 c1 c2 e2 HBk HBu Hu HD
  simp only [List.length_append, List.length_cons, List.length_nil, Nat.zero_add] at *
  go_wp2_with (refine wpList_append_full rfl _ _ rfl g i A a l c D rfl rfl HD2.out hi0 HS2.out hl0 (by omega) hn ?_)
  intro cap1 w3 HD3 HG3
  refine of_hid ?_
  go_wp2_with fail
  have hne : vb ≠ w2.heap.size := by omega
  refine (insert_any w2.heap.size (i + l) cap1 i vb (1 + (numL l).length) vc A D ([8 * k + s] ++ numL l) w3 HD3.out (HV.out.below HG3.out hvz) hne (by omega) hAl (by omega)).mono ?_
  rintro e w4 ⟨g', cap', rfl, hd4, hg4, hor⟩
  have h23 := HG3.out.size
  have h12 := HB2.out.size
  have HP : Hid (Dst w4 g' (i + l + (1 + (numL l).length)) cap' (A ++ frL k s D) ∧ Below w.heap.size w w4 ∧ w.heap.size ≤ g') := by
    refine hide ⟨?_, ?_, ?_⟩
    · unfold frL
      rw [hDl]
      have e : A ++ ([8 * k + s] ++ numL l) ++ D = A ++ ((8 * k + s) :: numL l ++ D) := by simp
      rw [← e]
      exact hd4
    · exact belowG (keepB HG3.out (Nat.le_refl _) HB2.out) hg4 (by omega) (by omega)
    · rcases hor with rfl | h <;> omega
  clear hd4 hg4 hor
  go_wp2
  go_ret2
  exact ⟨g', cap', _, rfl, HP.out⟩
end Go.Proofs.YtpaijhmbfljfmaaDoor.Fw
