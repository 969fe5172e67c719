/- slot: the law's first look. -/
import Derived.Test.YtlhjkacdhfchiaaXd
import Derived.Test.YtlhjkacdhfchiaaXm
namespace Go.Proofs.Ytlhjkacdhfchiaa.Xe
set_option linter.unusedVariables false
set_option linter.unusedSimpArgs false
set_option maxRecDepth 100000
open Go.ChangeShapes Go.WideShapes Go.ChangeAt Go.RowKit
open Go.Proofs.Ytlhjkacdhfchiaa.Wu Go.Proofs.Ytlhjkacdhfchiaa.Rk Go.Proofs.Ytlhjkacdhfchiaa.Km Go.Proofs.Ytlhjkacdhfchiaa.Xa Go.Proofs.Ytlhjkacdhfchiaa.Xb Go.Proofs.Ytlhjkacdhfchiaa.Xc Go.Proofs.Ytlhjkacdhfchiaa.Xd Go.Proofs.Ytlhjkacdhfchiaa.Xm
/-- The Slots that a law has made, and all that was there before. -/
structure Lw (w0 : World) (P M : Nat) (L : List Sl) (w : World) : Prop where
  slots : SlW w P M L
  below : Below w0.heap.size w0 w
  low : w0.heap.size ≤ M
theorem Lw.up {w0 w w' : World} {P M : Nat} {L : List Sl} (h : Lw w0 P M L w) (hb : Below w.heap.size w w') : Lw w0 P M L w' := ⟨h.slots.below hb, keepB hb (Nat.le_refl _) h.below, h.low⟩
theorem Lw.turn {w0 w w' : World} {P M : Nat} {L L' : List Sl} (h : Lw w0 P M L w) (hs : SlW w' P M L') (hg : w.grownBy w' (some M)) : Lw w0 P M L' w' :=
  ⟨hs, h.below.grown hg h.below.size (fun k hk => by injection hk with hk; rw [← hk]; exact h.low), h.low⟩
theorem ne_map {w : World} {P M X : Nat} {L : List Sl} {c : Array Value} {T : TypeId} {f : Nat × Nat} (h : SlW w P M L) (hx : w.heap[X]? = some (.cells c T f)) : some X ≠ some M := by
  intro e
  injection e with e
  obtain ⟨es, clock, hb, _⟩ := h.map
  rw [e, hb] at hx
  cases hx
theorem Lw.cells {w0 w w' : World} {P M X : Nat} {L : List Sl} {c : Array Value} {T : TypeId} {f : Nat × Nat} (h : Lw w0 P M L w) (hg : w.grownBy w' (some M)) (hx : w.heap[X]? = some (.cells c T f)) : w'.heap[X]? = some (.cells c T f) :=
  (hg.block X (heap_lt hx) (ne_map h.slots hx)).trans hx
theorem e1 (nm : ByteArray) : enterF [] 1 nm 1 = (0, [(1, nm)]) := by simp [enterF, placed, cnt]
theorem e2 (nm : ByteArray) : enterF [(1, nm)] 2 nm 1 = (150, [(1, nm)]) := by simp [enterF, placed, cnt, isWho, isIn]
theorem e3 (nm : ByteArray) : enterF [(1, nm)] 1 nm 1 = (5, [(1, nm)]) := by simp [enterF, placed, isWho]
theorem l1 (nm : ByteArray) : leaveF [(1, nm)] 1 = (0, []) := by simp [leaveF, placed, isWho]
theorem l2 : leaveF [] 1 = (4, []) := by simp [leaveF, placed]
theorem c1 (nm : ByteArray) : cnt nm [(1, nm)] = 1 := by simp [cnt, isIn]
theorem wf1 : (Lit.int .i64 1).wf = true := by decide
theorem wf2 : (Lit.int .i64 2).wf = true := by decide
set_option maxHeartbeats 1600000 in
theorem enters_c (w : World) : Calls Try.prog 8 #[] w fun e w' => e = .returned (.bool true) ∧ Below w.heap.size w w' := by
  have HN := hide (new_c w)
  go_enter Try.func8, Try.ntmps8
  go_wp2_with fail
  refine HN.out.mono ?_
  rintro e w1 ⟨rfl, hs, hb⟩
  have H1 := hide (show Lw w (w.heap.size + 1) w.heap.size [] w1 from ⟨hs, hb, Nat.le_refl _⟩)
  clear hs hb HN
  generalize w.heap.size + 1 = P at *
  go_wp2_with fail
  have H2 := hide (H1.out.up (below_new w1 (.cells #[.string ⟨#[97]⟩, .string ⟨#[]⟩, .bool false, .int .i64 1, .int .i64 0, .slice none 0 0] 35)))
  have HX2 := hide (heap_last w1 (.cells #[.string ⟨#[97]⟩, .string ⟨#[]⟩, .bool false, .int .i64 1, .int .i64 0, .slice none 0 0] 35))
  generalize w1.alloc (.cells #[.string ⟨#[97]⟩, .string ⟨#[]⟩, .bool false, .int .i64 1, .int .i64 0, .slice none 0 0] 35) = w2 at *
  clear H1
  have m0 := blk_cell (i := 0) HX2.out rfl
  have m1 := blk_cell (i := 1) HX2.out rfl
  have m2 := blk_cell (i := 2) HX2.out rfl
  have m3 := blk_cell (i := 3) HX2.out rfl
  have m4 := blk_cell (i := 4) HX2.out rfl
  have m5 := blk_cell (i := 5) HX2.out rfl
  go_wp2_with fail
  clear m0 m1 m2 m3 m4 m5
  refine (enter_c P w.heap.size [] 1 ⟨#[97]⟩ ⟨#[]⟩ false 1 0 (.slice none 0 0) w2 H2.out.slots wf1 (by unfold maxLen; simp)).mono ?_
  rw [e1]
  rintro e w3 ⟨rfl, hs, hg⟩
  have H3 := hide (H2.out.turn hs hg)
  have HX3 := hide (H2.out.cells hg HX2.out)
  clear hs hg H2 HX2
  simp only at H3
  have m0 := blk_cell (i := 0) HX3.out rfl
  have m1 := blk_cell (i := 1) HX3.out rfl
  have m2 := blk_cell (i := 2) HX3.out rfl
  have m3 := blk_cell (i := 3) HX3.out rfl
  have m4 := blk_cell (i := 4) HX3.out rfl
  have m5 := blk_cell (i := 5) HX3.out rfl
  go_wp2_with fail
  clear m0 m1 m2 m3 m4 m5
  refine (enter_c P w.heap.size _ 2 ⟨#[97]⟩ ⟨#[]⟩ false 1 0 (.slice none 0 0) w3 H3.out.slots wf2 (by unfold maxLen; simp)).mono ?_
  rw [e2]
  rintro e w4 ⟨rfl, hs, hg⟩
  have H4 := hide (H3.out.turn hs hg)
  have HX4 := hide (H3.out.cells hg HX3.out)
  clear hs hg H3 HX3
  simp only at H4
  have m0 := blk_cell (i := 0) HX4.out rfl
  have m1 := blk_cell (i := 1) HX4.out rfl
  have m2 := blk_cell (i := 2) HX4.out rfl
  have m3 := blk_cell (i := 3) HX4.out rfl
  have m4 := blk_cell (i := 4) HX4.out rfl
  have m5 := blk_cell (i := 5) HX4.out rfl
  go_wp2_with fail
  clear m0 m1 m2 m3 m4 m5
  refine (enter_c P w.heap.size _ 1 ⟨#[97]⟩ ⟨#[]⟩ false 1 0 (.slice none 0 0) w4 H4.out.slots wf1 (by unfold maxLen; simp)).mono ?_
  rw [e3]
  rintro e w5 ⟨rfl, hs, hg⟩
  have H5 := hide (H4.out.turn hs hg)
  have HX5 := hide (H4.out.cells hg HX4.out)
  clear hs hg H4 HX4
  simp only at H5
  go_wp2_with fail
  refine (count_c P w.heap.size _ ⟨#[97]⟩ w5 H5.out.slots).mono ?_
  rw [c1]
  rintro e w6 ⟨rfl, hb⟩
  have H6 := hide (H5.out.up hb)
  clear hb H5 HX5
  go_wp2_with fail
  refine (leave_c P w.heap.size _ 1 w6 H6.out.slots wf1).mono ?_
  rw [l1]
  rintro e w7 ⟨rfl, hs, hg⟩
  have H7 := hide (H6.out.turn hs hg)
  clear hs hg H6
  simp only at H7
  go_wp2_with fail
  refine (leave_c P w.heap.size _ 1 w7 H7.out.slots wf1).mono ?_
  rw [l2]
  rintro e w8 ⟨rfl, hs, hg⟩
  have H8 := hide (H7.out.turn hs hg)
  clear hs hg H7
  simp only at H8
  go_wp2_with fail
  refine (len_c P w.heap.size _ w8 H8.out.slots).mono ?_
  rintro e w9 ⟨rfl, rfl⟩
  have HB := hide H8.out.below
  clear H8
  go_wp2
  go_ret
  exact ⟨rfl, HB.out⟩
end Go.Proofs.Ytlhjkacdhfchiaa.Xe
