/- slot: Enter, Leave. -/
import Derived.Test.YtlhjkacdhfchiaaXc
import Derived.Test.YtlhjkacdhfchiaaRk
namespace Go.Proofs.Ytlhjkacdhfchiaa.Xd
set_option linter.unusedVariables false
set_option linter.unusedSimpArgs false
set_option maxRecDepth 100000
open Go.ChangeShapes Go.WideShapes Go.ChangeAt Go.RowKit
open Go.Proofs.Ytlhjkacdhfchiaa.Wu Go.Proofs.Ytlhjkacdhfchiaa.Rk Go.Proofs.Ytlhjkacdhfchiaa.Km Go.Proofs.Ytlhjkacdhfchiaa.Xa Go.Proofs.Ytlhjkacdhfchiaa.Xb Go.Proofs.Ytlhjkacdhfchiaa.Xc
attribute [local go_sem] kUpon_value kUpon_skip kUpon_enter
/-- What Enter and Leave leave: a number, and who is where. -/
def Ch (w : World) (P M : Nat) (r : Int × List Sl) (e : Ending) (w' : World) : Prop := e = .returned (.int .i64 r.1) ∧ SlW w' P M r.2 ∧ w.grownBy w' (some M)
set_option maxHeartbeats 1600000 in
theorem enter_c (P M : Nat) (L : List Sl) (who : Int) (nm r : ByteArray) (bw : Bool) (sl qu : Int) (us : Value) (w : World) (h : SlW w P M L) (hw : (Lit.int .i64 who).wf = true) (hroom : L.length < maxLen) :
    Calls Try.prog 10 #[.pointer (some ⟨P, 0, none⟩), .int .i64 who, .agg #[.string nm, .string r, .bool bw, .int .i64 sl, .int .i64 qu, us]] w (Ch w P M (enterF L who nm sl)) := by
  have hb1 := below_new w (.cells #[.string nm, .string r, .bool bw, .int .i64 sl, .int .i64 qu, us] 35)
  have HB1 := hide hb1
  have HX := hide (heap_last w (.cells #[.string nm, .string r, .bool bw, .int .i64 sl, .int .i64 qu, us] 35))
  have HS1 := hide (h.below hb1)
  have HI := hide (in_c P M L who _ HS1.out hw)
  have HK := hide (key_int hw)
  have Hroom := hide hroom
  clear hb1 hroom hw h
  cases hp : placed L who with
  | true =>
    obtain ⟨s, hs⟩ := placed_find hp
    rw [inV_true HS1.out.once hs] at HI
    have HE : Hid (∀ w', SlW w' P M L → w.grownBy w' (some M) → Ch w P M (enterF L who nm sl) (.returned (.int .i64 5)) w') := hide (fun w' h1 h2 => by
      have e : enterF L who nm sl = (5, L) := by unfold enterF; rw [if_pos hp]
      unfold Ch; rw [e]; exact ⟨rfl, h1, h2⟩)
    generalize Ch w P M (enterF L who nm sl) = R at *
    clear hs hp
    go_enter Try.func10, Try.ntmps10
    go_wp2_with fail
    generalize w.alloc (.cells #[.string nm, .string r, .bool bw, .int .i64 sl, .int .i64 qu, us] 35) = w1 at *
    refine HI.out.mono ?_
    rintro e w2 ⟨rfl, hb2⟩
    have HZ := hide (HE.out w2 (HS1.out.below hb2) (grown_below (keepB hb2 (Nat.le_refl _) HB1.out) _))
    clear hb2
    go_wp2
    exact HZ.out
  | false =>
    rw [inV_false hp] at HI
    have Hp := hide hp
    clear hp
    by_cases hq : sl ≤ (cnt nm L : Int)
    · have HE : Hid (∀ w', SlW w' P M L → w.grownBy w' (some M) → Ch w P M (enterF L who nm sl) (.returned (.int .i64 150)) w') := hide (fun w' h1 h2 => by
        have e : enterF L who nm sl = (150, L) := by unfold enterF; rw [if_neg (by rw [Hp.out]; simp), if_pos hq]
        unfold Ch; rw [e]; exact ⟨rfl, h1, h2⟩)
      generalize Ch w P M (enterF L who nm sl) = R at *
      have HC := hide (fun (u : World) (hu : SlW u P M L) => count_c P M L nm u hu)
      obtain ⟨C, hC⟩ : ∃ C, C = cnt nm L := ⟨_, rfl⟩
      rw [← hC] at HC hq
      have d1 : decide (sl ≤ (C : Int)) = true := by simpa using hq
      clear hq hC
      go_enter Try.func10, Try.ntmps10
      go_wp2_with fail
      generalize w.alloc (.cells #[.string nm, .string r, .bool bw, .int .i64 sl, .int .i64 qu, us] 35) = w1 at *
      refine HI.out.mono ?_
      rintro e w2 ⟨rfl, hb2⟩
      have HX2 := hide (below_blk hb2 (heap_lt HX.out) HX.out)
      have HS2 := hide (HS1.out.below hb2)
      have HB2 := hide (keepB hb2 (Nat.le_refl _) HB1.out)
      clear hb2 HI HX HS1 HB1
      go_wp2_with fail
      refine wp_region_keep (fun u => Below w2.heap.size w2 u) (by kernel_rfl) (by kernel_rfl) (Below.refl _ _).drew ?_
      repeat (first
        | (refine keep_step (v := ?_) (by rfl) (fun u K hS hK => ?_) ?_
           rotate_left
           · have hX := below_blk hS (heap_lt HX2.out) HX2.out
             have m0 := blk_cell (i := 0) hX rfl
             have m3 := blk_cell (i := 3) hX rfl
             (go_simp; first
               | (with_reducible exact hK _ hS)
               | (go_at_call 14; (with_reducible refine Calls.mono (HC.out u (HS2.out.below hS)) ?_); rintro e u2 ⟨rfl, hb⟩; exact hK _ (keepB hb (Nat.le_refl _) hS)))
           simp only [Act.put, List.setIfInBounds_toArray, List.set_cons_zero, List.set_cons_succ]))
      refine keep_nil (fun w3 hS3 => ?_)
      have HZ := hide (HE.out w3 (HS2.out.below hS3) (grown_below (keepB hS3 (Nat.le_refl _) HB2.out) _))
      clear hS3
      go_wp2
      exact HZ.out
    · have HE : Hid (∀ w', SlW w' P M (L ++ [(who, nm)]) → w.grownBy w' (some M) → Ch w P M (enterF L who nm sl) (.returned (.int .i64 0)) w') := hide (fun w' h1 h2 => by
        have e : enterF L who nm sl = (0, L ++ [(who, nm)]) := by unfold enterF; rw [if_neg (by rw [Hp.out]; simp), if_neg hq]
        unfold Ch; rw [e]; exact ⟨rfl, h1, h2⟩)
      generalize Ch w P M (enterF L who nm sl) = R at *
      have HC := hide (fun (u : World) (hu : SlW u P M L) => count_c P M L nm u hu)
      obtain ⟨C, hC⟩ : ∃ C, C = cnt nm L := ⟨_, rfl⟩
      rw [← hC] at HC hq
      have d1 : decide (sl ≤ (C : Int)) = false := by simpa using hq
      clear hq hC
      go_enter Try.func10, Try.ntmps10
      go_wp2_with fail
      generalize w.alloc (.cells #[.string nm, .string r, .bool bw, .int .i64 sl, .int .i64 qu, us] 35) = w1 at *
      refine HI.out.mono ?_
      rintro e w2 ⟨rfl, hb2⟩
      have HX2 := hide (below_blk hb2 (heap_lt HX.out) HX.out)
      have HS2 := hide (HS1.out.below hb2)
      have HB2 := hide (keepB hb2 (Nat.le_refl _) HB1.out)
      clear hb2 HI HX HS1 HB1
      go_wp2_with fail
      refine wp_region_keep (fun u => Below w2.heap.size w2 u) (by kernel_rfl) (by kernel_rfl) (Below.refl _ _).drew ?_
      repeat (first
        | (refine keep_step (v := ?_) (by rfl) (fun u K hS hK => ?_) ?_
           rotate_left
           · have hX := below_blk hS (heap_lt HX2.out) HX2.out
             have m0 := blk_cell (i := 0) hX rfl
             have m3 := blk_cell (i := 3) hX rfl
             (go_simp; first
               | (with_reducible exact hK _ hS)
               | (go_at_call 14; (with_reducible refine Calls.mono (HC.out u (HS2.out.below hS)) ?_); rintro e u2 ⟨rfl, hb⟩; exact hK _ (keepB hb (Nat.le_refl _) hS)))
           simp only [Act.put, List.setIfInBounds_toArray, List.set_cons_zero, List.set_cons_succ]))
      refine keep_nil (fun w3 hS3 => ?_)
      have HX3 := hide (below_blk hS3 (heap_lt HX2.out) HX2.out)
      have HS3 := hide (HS2.out.below hS3)
      have HB3 := hide (keepB hS3 (Nat.le_refl _) HB2.out)
      clear hS3 HX2 HS2 HB2 HC
      have mixed : Try.prog.follows Departure.mixedOrders = true := by kernel_rfl
      go_wp2_with fail
      refine wp_region_keep_tail 8 (fun u => Below w3.heap.size w3 u) mixed (by kernel_rfl) (Below.refl _ _).drew ?_
      simp only [List.take_succ_cons, List.take_zero]
      repeat (first
        | (refine keep_step (v := ?_) (by rfl) (fun u K hS hK => ?_) ?_
           rotate_left
           · have hX := below_blk hS (heap_lt HX3.out) HX3.out
             have m0 := blk_cell (i := 0) hX rfl
             have o0 := blk_cell (i := 0) (HS3.out.below hS).obj rfl
             (go_simp; with_reducible exact hK _ hS)
           simp only [Act.put, List.setIfInBounds_toArray, List.set_cons_zero, List.set_cons_succ]))
      refine keep_nil (fun w4 hS4 => ?_)
      simp only [List.drop_succ_cons, List.drop_zero]
      have HS4 := hide (HS3.out.below hS4)
      have HB4 := hide (keepB hS4 (Nat.le_refl _) HB3.out)
      clear hS4 HX3 HS3 HB3
      have hl : (L.map ent).length < maxLen := by rw [List.length_map]; exact Hroom.out
      go_wp2_with (refine wpList_put rfl (.tmp 28) (.tmp 29) (.tmp 32) 68 rfl 3 72 law_int Try.underlying68 M (L.map ent) rfl HS4.out.map hl (.int .i64 who) (.agg #[.string nm]) (.int .i64 who) rfl rfl HK.out ?_)
      intro l' w5 HM HPu HG
      refine un ?_
      have HZ := hide (HE.out w5 ⟨(HG.out.block P (heap_lt HS4.out.obj) (by intro e; injection e with e; exact HS4.out.ne e)).trans HS4.out.obj, by rw [← Put_end HPu.out Hp.out]; exact HM.out⟩ ((grown_below HB4.out _).andThen HG.out (fun j hj => .inr hj)))
      clear HM HPu HG hl
      go_wp2
      exact HZ.out
set_option maxHeartbeats 1600000 in
theorem leave_c (P M : Nat) (L : List Sl) (who : Int) (w : World) (h : SlW w P M L) (hw : (Lit.int .i64 who).wf = true) :
    Calls Try.prog 11 #[.pointer (some ⟨P, 0, none⟩), .int .i64 who] w (Ch w P M (leaveF L who)) := by
  have HS1 := hide h
  have HI := hide (in_c P M L who _ h hw)
  have HK := hide (key_int hw)
  clear hw h
  cases hp : placed L who with
  | false =>
    rw [inV_false hp] at HI
    have HE : Hid (∀ w', SlW w' P M L → w.grownBy w' (some M) → Ch w P M (leaveF L who) (.returned (.int .i64 4)) w') := hide (fun w' h1 h2 => by
      have e : leaveF L who = (4, L) := by unfold leaveF; rw [if_neg (by rw [hp]; simp)]
      unfold Ch; rw [e]; exact ⟨rfl, h1, h2⟩)
    generalize Ch w P M (leaveF L who) = R at *
    clear hp
    go_enter Try.func11, Try.ntmps11
    go_wp2_with fail
    refine HI.out.mono ?_
    rintro e w2 ⟨rfl, hb2⟩
    have HZ := hide (HE.out w2 (HS1.out.below hb2) (grown_below hb2 _))
    clear hb2
    go_wp2
    exact HZ.out
  | true =>
    obtain ⟨s, hs⟩ := placed_find hp
    rw [inV_true HS1.out.once hs] at HI
    have HE : Hid (∀ w', SlW w' P M (L.filter (fun u => !isWho who u)) → w.grownBy w' (some M) → Ch w P M (leaveF L who) (.returned (.int .i64 0)) w') := hide (fun w' h1 h2 => by
      have e : leaveF L who = (0, L.filter (fun u => !isWho who u)) := by unfold leaveF; rw [if_pos hp]
      unfold Ch; rw [e]; exact ⟨rfl, h1, h2⟩)
    generalize Ch w P M (leaveF L who) = R at *
    clear hs hp
    go_enter Try.func11, Try.ntmps11
    go_wp2_with fail
    refine HI.out.mono ?_
    rintro e w2 ⟨rfl, hb2⟩
    have HS2 := hide (HS1.out.below hb2)
    have HB2 := hide hb2
    clear hb2 HI HS1
    have o0 := blk_cell (i := 0) HS2.out.obj rfl
    go_wp2_with (refine wpList_drop rfl (.tmp 18) (.tmp 19) 68 3 rfl 72 law_int Try.underlying68 M (L.map ent) rfl HS2.out.map (.int .i64 who) (.int .i64 who) rfl HK.out ?_)
    intro l' w5 HM HD HG
    refine un ?_
    have HZ := hide (HE.out w5 ⟨(HG.out.block P (heap_lt HS2.out.obj) (by intro e; injection e with e; exact HS2.out.ne e)).trans HS2.out.obj, by rw [← Del_list HS2.out.once HD.out]; exact HM.out⟩ ((grown_below HB2.out _).andThen HG.out (fun j hj => .inr hj)))
    clear HM HD HG
    go_wp2
    exact HZ.out
end Go.Proofs.Ytlhjkacdhfchiaa.Xd
