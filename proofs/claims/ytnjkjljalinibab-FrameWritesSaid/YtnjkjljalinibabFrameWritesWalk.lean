/- FrameWrites' walk. -/
import Derived.Test.YtnjkjljalinibabFe
import Derived.Test.YtnjkjljalinibabFf
import Derived.Test.YtnjkjljalinibabRg
namespace Go.Proofs.Ytnjkjljalinibab.FrameWritesW
set_option linter.unusedVariables false
set_option linter.unusedSimpArgs false
open Go.ChangeShapes Go.WideShapes Go.ChangeAt Go.RowKit
open Go.Proofs.Ytnjkjljalinibab.Wu Go.Proofs.Ytnjkjljalinibab.Sm Go.Proofs.Ytnjkjljalinibab.Sh Go.Proofs.Ytnjkjljalinibab.Ba Go.Proofs.Ytnjkjljalinibab.Bp Go.Proofs.Ytnjkjljalinibab.Bq Go.Proofs.Ytnjkjljalinibab.Bz Go.Proofs.Ytnjkjljalinibab.Cm Go.Proofs.Ytnjkjljalinibab.Cn Go.Proofs.Ytnjkjljalinibab.Cr Go.Proofs.Ytnjkjljalinibab.Cs Go.Proofs.Ytnjkjljalinibab.Rk Go.Proofs.Ytnjkjljalinibab.Ct Go.Proofs.Ytnjkjljalinibab.Bs Go.Proofs.Ytnjkjljalinibab.Rn Go.Proofs.Ytnjkjljalinibab.Rg Go.Proofs.Ytnjkjljalinibab.Fa Go.Proofs.Ytnjkjljalinibab.Fb Go.Proofs.Ytnjkjljalinibab.Fc Go.Proofs.Ytnjkjljalinibab.Fd Go.Proofs.Ytnjkjljalinibab.Fe Go.Proofs.Ytnjkjljalinibab.Ff
attribute [local go_sem] kUpon_value kUpon_skip kUpon_enter
def Post (w : World) (e : Ending) (w' : World) : Prop := e = .returned (.bool true) ∧ Below w.heap.size w w'
theorem out_walk (v : Value) (fa : Option Addr) (fl fc : Nat) (k s : Int) (a : Option Addr) (l c : Nat) (w : World) (h : 100 < fl) (hf : fl ≤ 9223372036854775807) :
    Calls Try.prog 4 #[.agg #[.int .i64 k, .int .i64 s, .slice a l c], .slice fa fl fc] w (Post w) := by
  have HC := hide (fun u => reads_c u)
  go_enter Try.func4, Try.ntmps4
  go_wp2_with fail
  refine (HC.out _).mono ?_
  rintro e w1 ⟨rfl, hb⟩
  have HB := hide (keepB hb (Nat.le_refl _) (below_new w _))
  clear hb HC
  have d1 : decide ((100 : Int) < (fl : Int)) = true := by simp; omega
  have d1' : decide (100 < fl) = true := by simp; omega
  go_wp2
  go_ret
  exact ⟨rfl, HB.out⟩
theorem kUpon_append {a : Act} {o : Oper} {u w' : World} {K : Value → World → Prop} {v y v' : Value} (s x : Operand) (ho : o.op = .call { callee := .builtin .append, args := #[s, x], argTypes := #[23, 23] }) (hs : a.eval s = v) (hx : a.eval x = y)
    (hrun : (Builtin.append_ #[23, 23] o.type #[v, y]).run Try.prog u = .ok v' w') (h : K v' w') : kUpon Try.prog K ((execOp a.eval o).run Try.prog u) := by
  have e : (execOp a.eval o).run Try.prog u = .ok (.value v') w' := by
    simp [execOp, ho, resolve, invoke, builtin, hs, hx, hrun, Result.andThen]
  rw [e]
  exact h
/-- Where the walk through the first statement is: an empty row, the front's copy, what Append answers. -/
def stage (w : World) (F : List Nat) (fl : Nat) (R : Value → World → Prop) (u : World) : List Value → Prop
  | [v] => ∃ b, v = .slice (some ⟨b, 0, none⟩) 0 0 ∧ Dst u b 0 0 [] ∧ w.heap.size < b
  | [_, v] => ∃ g cap, v = .slice (some ⟨g, 0, none⟩) fl cap ∧ Dst u g fl cap F ∧ w.heap.size < g
  | [_, _, v] => R v u
  | _ => True
structure T (w : World) (cs : Array Value) (F : List Nat) (fl : Nat) (R : Value → World → Prop) (h : List Value) (u : World) : Prop where
  below : Below w.heap.size w u
  blk : u.heap[w.heap.size]? = some (.cells cs 27 (0, 0))
  stage : stage w F fl R u h
set_option maxHeartbeats 3200000 in
set_option maxRecDepth 100000 in
theorem walk_bad (fa : Option Addr) (fl fc : Nat) (F : List Nat) (k s : Int) (a : Option Addr) (l c : Nat) (D : List Nat) (w : World) (hf : SrcB w fa fl F) (hfn : fa = none → fl = 0) (h1 : fl ≤ 100) (hs : SrcB w a l D) (hl : l ≤ 9223372036854775807) (hk : chk k s l ≠ 0) :
    Calls Try.prog 4 #[.agg #[.int .i64 k, .int .i64 s, .slice a l c], .slice fa fl fc] w (Post w) := by
  have HC := hide (fun u => reads_c u)
  have HF := hide hf
  have HS := hide hs
  have hDl := hs.1
  clear hf hs
  have d1 : decide ((100 : Int) < (fl : Int)) = false := by simp; omega
  go_enter Try.func4, Try.ntmps4
  go_wp2_with fail
  have HF0 := hide (heap_last w (.cells #[.int .i64 k, .int .i64 s, .slice a l c] 27))
  refine (HC.out _).mono ?_
  rintro e w1 ⟨rfl, hb⟩
  have HB1 := hide (keepB hb (Nat.le_refl _) (below_new w (.cells #[.int .i64 k, .int .i64 s, .slice a l c] 27)))
  have HFb := hide (below_blk hb (heap_lt HF0.out) HF0.out)
  clear hb HC HF0
  have mixed : Try.prog.follows Departure.mixedOrders = true := by kernel_rfl
  go_wp2_with fail
  have HT0 : Hid (T w #[.int .i64 k, .int .i64 s, .slice a l c] F fl (fun v _ => v = .tuple #[.slice none 0 0, .int .i64 (chk k s l)]) [] w1.drew) := hide ⟨HB1.out.drew, HFb.out, trivial⟩
  refine wp_region_g (T w #[.int .i64 k, .int .i64 s, .slice a l c] F fl (fun v _ => v = .tuple #[.slice none 0 0, .int .i64 (chk k s l)])) [some (some ?_), none, some (some ?_), none, none, some none, some none, some none, some none, some none] mixed (by kernel_rfl) [1, 3, 4] [1, 3, 4, 5, 6, 7, 8, 9] rfl rfl (by kernel_rfl) HT0.out ?_
  rotate_left 2
  refine gF_step (by rfl) (fun h u K hT hK => ?_) ?_
  · have c0 : u.cell? ⟨w.heap.size, 0, none⟩ = some (.int .i64 k) := blk_cell hT.blk rfl
    have c1 : u.cell? ⟨w.heap.size, 1, none⟩ = some (.int .i64 s) := blk_cell hT.blk rfl
    have c2 : u.cell? ⟨w.heap.size, 2, none⟩ = some (.slice a l c) := blk_cell hT.blk rfl
    go_simp
    exact hK _ hT
  simp only [Act.put, List.setIfInBounds_toArray, List.set_cons_zero, List.set_cons_succ]
  refine gD_step (fun v => ∃ b, v = .slice (some ⟨b, 0, none⟩) 0 0) ⟨_, 0, rfl⟩ (by rfl) (fun u K hT hK => ?_) (fun v16 hv16 => ?_)
  · go_simp
    have hb := below_new u (.cells #[] 5)
    refine hK _ _ ⟨_, rfl⟩ ⟨keepB hb (Nat.le_refl _) hT.below, below_blk hb (heap_lt hT.blk) hT.blk, _, rfl, dst_new u [] #[] 5 (0, 0) rfl (by intro x hx; cases hx) (by simp [maxLen]), heap_lt hT.blk⟩
  obtain ⟨b16, rfl⟩ := hv16
  simp only [Act.put, List.setIfInBounds_toArray, List.set_cons_zero, List.set_cons_succ]
  refine gF_step (by rfl) (fun h u K hT hK => ?_) ?_
  · go_simp
    exact hK _ hT
  simp only [Act.put, List.setIfInBounds_toArray, List.set_cons_zero, List.set_cons_succ]
  refine gD_step (fun v => ∃ g cap, v = .slice (some ⟨g, 0, none⟩) fl cap) ⟨_, 0, 0, rfl⟩ (by rfl) (fun u K hT hK => ?_) (fun v18 hv18 => ?_)
  · obtain ⟨b, e, hd, hlt⟩ := hT.stage
    simp only [List.nil_append, Value.slice.injEq, Option.some.injEq, Addr.mk.injEq, and_true] at e
    subst e
    obtain ⟨g', cap', w', hrun, h1, h2, h3, h4⟩ := append_dst u 23 b16 0 0 [] fa fl fc F hd (HF.out.below hT.below) (by omega) hfn
    rw [Nat.zero_add] at hrun h1
    refine kUpon_append (.tmp 16) (.tmp 17) rfl rfl rfl hrun ?_
    have hgl : w.heap.size < g' := by
      rcases h3 with h | h
      · omega
      · have := heap_lt hT.blk; omega
    exact hK _ _ ⟨_, _, rfl⟩ ⟨belowG hT.below h2 (by omega) hT.below.size, keepG h2 (by omega) hT.blk, _, _, rfl, by simpa using h1, hgl⟩
  obtain ⟨g18, cap18, rfl⟩ := hv18
  simp only [Act.put, List.setIfInBounds_toArray, List.set_cons_zero, List.set_cons_succ]
  refine gE_step (v := .tuple #[.slice none 0 0, .int .i64 (chk k s l)]) (by rfl) (fun u K hT hK => ?_) ?_
  · go_simp
    refine (append_bad k s a l c _ u hl hk).mono ?_
    rintro e u' ⟨rfl, hb⟩
    exact hK _ ⟨keepB hb (Nat.le_refl _) hT.below, below_blk hb (heap_lt hT.blk) hT.blk, rfl⟩
  simp only [Act.put, List.setIfInBounds_toArray, List.set_cons_zero, List.set_cons_succ]
  repeat (
    refine gG_step (v := ?_) (by rfl) (fun h u K hT hK => ?_) ?_
    rotate_left
    · (go_simp; exact hK _ hT)
    simp only [Act.put, List.setIfInBounds_toArray, List.set_cons_zero, List.set_cons_succ])
  refine g_nil (fun w3 hT => ?_)
  have HB3 := hide hT.below
  have HF3 := hide hT.blk
  clear hT HT0
  have HCk := hide (fun u => check_c k s a l c u hl)
  have HWr := hide (fun u => refWrite_bad k s D u (by omega) (by rw [hDl]; exact hk))
  rw [hDl] at HWr
  obtain ⟨z, hz⟩ : ∃ z, z = chk k s l := ⟨_, rfl⟩
  rw [← hz] at hk HCk HWr ⊢
  clear hz
  have c0 : w3.cell? ⟨w.heap.size, 0, none⟩ = some (.int .i64 k) := blk_cell HF3.out rfl
  have c1 : w3.cell? ⟨w.heap.size, 1, none⟩ = some (.int .i64 s) := blk_cell HF3.out rfl
  have c2 : w3.cell? ⟨w.heap.size, 2, none⟩ = some (.slice a l c) := blk_cell HF3.out rfl
  go_wp2_with fail
  refine (plain_c k s a l c D w3 (HS.out.below HB3.out)).mono ?_
  rintro e w4 ⟨rfl, hb4⟩
  have HB4 := hide (keepB hb4 (Nat.le_refl _) HB3.out)
  have HF4 := hide (below_blk hb4 (heap_lt HF3.out) HF3.out)
  clear hb4 c0 c1 c2
  go_wp2_with fail
  refine (HWr.out w4).mono ?_
  rintro e w5 ⟨rfl, hb5⟩
  have HB5 := hide (keepB hb5 (Nat.le_refl _) HB4.out)
  have HF5 := hide (below_blk hb5 (heap_lt HF4.out) HF4.out)
  clear hb5
  have c0 : w5.cell? ⟨w.heap.size, 0, none⟩ = some (.int .i64 k) := blk_cell HF5.out rfl
  have c1 : w5.cell? ⟨w.heap.size, 1, none⟩ = some (.int .i64 s) := blk_cell HF5.out rfl
  have c2 : w5.cell? ⟨w.heap.size, 2, none⟩ = some (.slice a l c) := blk_cell HF5.out rfl
  go_wp2_with fail
  refine (HCk.out w5).mono ?_
  rintro e w6 ⟨rfl, hb6⟩
  have HB6 := hide (keepB hb6 (Nat.le_refl _) HB5.out)
  clear hb6
  go_wp2
  go_ret
  exact ⟨rfl, HB6.out⟩
set_option maxHeartbeats 3200000 in
set_option maxRecDepth 100000 in
theorem walk_ok (fa : Option Addr) (fl fc : Nat) (F : List Nat) (k s : Nat) (a : Option Addr) (l c : Nat) (D : List Nat) (w : World) (hf : SrcB w fa fl F) (hfn : fa = none → fl = 0) (h1 : fl ≤ 100) (hs : SrcB w a l D) (hsn : a = none → l = 0) (hl : l ≤ 16384) (hlc : l ≤ c) (hk1 : 1 ≤ k) (hk2 : k ≤ 31) (hs2 : s ≤ 7) :
    Calls Try.prog 4 #[.agg #[.int .i64 (k : Int), .int .i64 (s : Int), .slice a l c], .slice fa fl fc] w (Post w) := by
  have HC := hide (fun u => reads_c u)
  have HF := hide hf
  have HS := hide hs
  have hDl := hs.1
  clear hf hs
  have d1 : decide ((100 : Int) < (fl : Int)) = false := by simp; omega
  go_enter Try.func4, Try.ntmps4
  go_wp2_with fail
  have HF0 := hide (heap_last w (.cells #[.int .i64 (k : Int), .int .i64 (s : Int), .slice a l c] 27))
  refine (HC.out _).mono ?_
  rintro e w1 ⟨rfl, hb⟩
  have HB1 := hide (keepB hb (Nat.le_refl _) (below_new w (.cells #[.int .i64 (k : Int), .int .i64 (s : Int), .slice a l c] 27)))
  have HFb := hide (below_blk hb (heap_lt HF0.out) HF0.out)
  clear hb HC HF0
  have mixed : Try.prog.follows Departure.mixedOrders = true := by kernel_rfl
  go_wp2_with fail
  have HT0 : Hid (T w #[.int .i64 (k : Int), .int .i64 (s : Int), .slice a l c] F fl (fun v u => ∃ g' n' cap', v = .tuple #[.slice (some ⟨g', 0, none⟩) n' cap', .int .i64 0] ∧ Dst u g' n' cap' (F ++ frL k s D)) [] w1.drew) := hide ⟨HB1.out.drew, HFb.out, trivial⟩
  refine wp_region_g (T w #[.int .i64 (k : Int), .int .i64 (s : Int), .slice a l c] F fl (fun v u => ∃ g' n' cap', v = .tuple #[.slice (some ⟨g', 0, none⟩) n' cap', .int .i64 0] ∧ Dst u g' n' cap' (F ++ frL k s D))) [some (some ?_), none, some (some ?_), none, none, some none, some none, some none, some none, some none] mixed (by kernel_rfl) [1, 3, 4] [1, 3, 4, 5, 6, 7, 8, 9] rfl rfl (by kernel_rfl) HT0.out ?_
  rotate_left 2
  refine gF_step (by rfl) (fun h u K hT hK => ?_) ?_
  · have c0 : u.cell? ⟨w.heap.size, 0, none⟩ = some (.int .i64 (k : Int)) := blk_cell hT.blk rfl
    have c1 : u.cell? ⟨w.heap.size, 1, none⟩ = some (.int .i64 (s : Int)) := blk_cell hT.blk rfl
    have c2 : u.cell? ⟨w.heap.size, 2, none⟩ = some (.slice a l c) := blk_cell hT.blk rfl
    go_simp
    exact hK _ hT
  simp only [Act.put, List.setIfInBounds_toArray, List.set_cons_zero, List.set_cons_succ]
  refine gD_step (fun v => ∃ b, v = .slice (some ⟨b, 0, none⟩) 0 0) ⟨_, 0, rfl⟩ (by rfl) (fun u K hT hK => ?_) (fun v16 hv16 => ?_)
  · go_simp
    have hb := below_new u (.cells #[] 5)
    refine hK _ _ ⟨_, rfl⟩ ⟨keepB hb (Nat.le_refl _) hT.below, below_blk hb (heap_lt hT.blk) hT.blk, _, rfl, dst_new u [] #[] 5 (0, 0) rfl (by intro x hx; cases hx) (by simp [maxLen]), heap_lt hT.blk⟩
  obtain ⟨b16, rfl⟩ := hv16
  simp only [Act.put, List.setIfInBounds_toArray, List.set_cons_zero, List.set_cons_succ]
  refine gF_step (by rfl) (fun h u K hT hK => ?_) ?_
  · go_simp
    exact hK _ hT
  simp only [Act.put, List.setIfInBounds_toArray, List.set_cons_zero, List.set_cons_succ]
  refine gD_step (fun v => ∃ g cap, v = .slice (some ⟨g, 0, none⟩) fl cap) ⟨_, 0, 0, rfl⟩ (by rfl) (fun u K hT hK => ?_) (fun v18 hv18 => ?_)
  · obtain ⟨b, e, hd, hlt⟩ := hT.stage
    simp only [List.nil_append, Value.slice.injEq, Option.some.injEq, Addr.mk.injEq, and_true] at e
    subst e
    obtain ⟨g', cap', w', hrun, h1, h2, h3, h4⟩ := append_dst u 23 b16 0 0 [] fa fl fc F hd (HF.out.below hT.below) (by omega) hfn
    rw [Nat.zero_add] at hrun h1
    refine kUpon_append (.tmp 16) (.tmp 17) rfl rfl rfl hrun ?_
    have hgl : w.heap.size < g' := by
      rcases h3 with h | h
      · omega
      · have := heap_lt hT.blk; omega
    exact hK _ _ ⟨_, _, rfl⟩ ⟨belowG hT.below h2 (by omega) hT.below.size, keepG h2 (by omega) hT.blk, _, _, rfl, by simpa using h1, hgl⟩
  obtain ⟨g18, cap18, rfl⟩ := hv18
  simp only [Act.put, List.setIfInBounds_toArray, List.set_cons_zero, List.set_cons_succ]
  refine gD_step (fun v => ∃ g' n' cap', v = .tuple #[.slice (some ⟨g', 0, none⟩) n' cap', .int .i64 0]) ⟨_, 0, 0, 0, rfl⟩ (by rfl) (fun u K hT hK => ?_) (fun v19 hv19 => ?_)
  · obtain ⟨g, cap, e, hd, hlt⟩ := hT.stage
    simp only [List.nil_append, List.cons_append, Value.slice.injEq, Option.some.injEq, Addr.mk.injEq, and_true, true_and] at e
    obtain ⟨rfl, rfl⟩ := e
    go_simp
    refine (append_ok k s a l c g18 fl cap18 F D u hd (HS.out.below hT.below) hsn (by omega) hk1 hk2 hs2 hl hlc).mono ?_
    rintro e u' ⟨g', cap', n', rfl, h1, h2, h3⟩
    exact hK _ _ ⟨_, _, _, rfl⟩ ⟨belowG hT.below h2 (by omega) hT.below.size, keepG h2 (by omega) hT.blk, _, _, _, rfl, h1⟩
  obtain ⟨g19, n19, cap19, rfl⟩ := hv19
  simp only [Act.put, List.setIfInBounds_toArray, List.set_cons_zero, List.set_cons_succ]
  repeat (
    refine gG_step (v := ?_) (by rfl) (fun h u K hT hK => ?_) ?_
    rotate_left
    · (go_simp; exact hK _ hT)
    simp only [Act.put, List.setIfInBounds_toArray, List.set_cons_zero, List.set_cons_succ])
  refine g_nil (fun w3 hT => ?_)
  have HB3 := hide hT.below
  have HF3 := hide hT.blk
  have HD3 : Hid (Dst w3 g19 n19 cap19 (F ++ frL k s D)) := by
    obtain ⟨g', n', cap', e, hd⟩ := hT.stage
    simp only [List.nil_append, List.cons_append, Value.tuple.injEq, Array.mk.injEq, List.cons.injEq, Value.slice.injEq, Option.some.injEq, Addr.mk.injEq, and_true, true_and] at e
    obtain ⟨rfl, rfl, rfl⟩ := e
    exact hide hd
  clear hT HT0
  have hFl := HF.out.1
  have hz0 : chk (k : Int) (s : Int) l = 0 := by unfold chk; rw [if_neg (by omega), if_neg (by omega), if_neg (by omega)]
  have HCk := hide (fun u => check_c (k : Int) (s : Int) a l c u (by omega))
  rw [hz0] at HCk
  clear hz0
  have HWr := hide (fun u => refWrite_ok k s D u hk1 hk2 hs2 (by omega))
  have c0 : w3.cell? ⟨w.heap.size, 0, none⟩ = some (.int .i64 (k : Int)) := blk_cell HF3.out rfl
  have c1 : w3.cell? ⟨w.heap.size, 1, none⟩ = some (.int .i64 (s : Int)) := blk_cell HF3.out rfl
  have c2 : w3.cell? ⟨w.heap.size, 2, none⟩ = some (.slice a l c) := blk_cell HF3.out rfl
  go_wp2_with fail
  refine (plain_c (k : Int) (s : Int) a l c D w3 (HS.out.below HB3.out)).mono ?_
  rintro e w4 ⟨rfl, hb4⟩
  have HB4 := hide (keepB hb4 (Nat.le_refl _) HB3.out)
  have HF4 := hide (below_blk hb4 (heap_lt HF3.out) HF3.out)
  have HD4 := hide (HD3.out.below hb4 HD3.out.lt)
  clear hb4 c0 c1 c2 HD3 HF3 HB3
  go_wp2_with fail
  refine (HWr.out w4).mono ?_
  rintro e w5 ⟨rfl, hb5⟩
  have HB5 := hide (keepB hb5 (Nat.le_refl _) HB4.out)
  have HF5 := hide (below_blk hb5 (heap_lt HF4.out) HF4.out)
  have HD5 := hide (HD4.out.below hb5 HD4.out.lt)
  clear hb5 HD4 HF4 HB4
  have c0 : w5.cell? ⟨w.heap.size, 0, none⟩ = some (.int .i64 (k : Int)) := blk_cell HF5.out rfl
  have c1 : w5.cell? ⟨w.heap.size, 1, none⟩ = some (.int .i64 (s : Int)) := blk_cell HF5.out rfl
  have c2 : w5.cell? ⟨w.heap.size, 2, none⟩ = some (.slice a l c) := blk_cell HF5.out rfl
  have HA := hide (fun u : World => add_strN F (frL k s D) (by omega) (by
    have := numL_six D.length (by omega)
    unfold frL
    simp only [List.length_append, List.length_cons]
    omega) u)
  have HV5 := hide (conv_src (cap := cap19) HD5.out.src)
  have HVF := hide (conv_src (cap := fc) (HF.out.below HB5.out))
  go_wp2_with fail
  rw [HV5.out]
  go_wp2_with fail
  rw [HVF.out]
  have hadd := HA.out
  go_wp2_with fail
  refine (HCk.out w5).mono ?_
  rintro e w6 ⟨rfl, hb6⟩
  have HB6 := hide (keepB hb6 (Nat.le_refl _) HB5.out)
  clear hb6 hadd
  go_wp2
  go_ret
  exact ⟨rfl, HB6.out⟩
end Go.Proofs.Ytnjkjljalinibab.FrameWritesW
