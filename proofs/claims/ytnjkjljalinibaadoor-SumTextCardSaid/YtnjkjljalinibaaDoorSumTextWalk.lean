/- SumText's walk. -/
import Derived.Test.YtnjkjljalinibaaDoorSg
import Derived.Test.YtnjkjljalinibaaDoorSrt
import Derived.Test.YtnjkjljalinibaaDoorRl
namespace Go.Proofs.YtnjkjljalinibaaDoor.SumTextW
set_option linter.unusedVariables false
set_option linter.unusedSimpArgs false
open Go.ChangeShapes Go.WideShapes Go.ChangeAt Go.RowKit
open Go.Proofs.YtnjkjljalinibaaDoor.Wu Go.Proofs.YtnjkjljalinibaaDoor.Sm Go.Proofs.YtnjkjljalinibaaDoor.Sk Go.Proofs.YtnjkjljalinibaaDoor.Sc Go.Proofs.YtnjkjljalinibaaDoor.Sxa Go.Proofs.YtnjkjljalinibaaDoor.Sh Go.Proofs.YtnjkjljalinibaaDoor.Sn Go.Proofs.YtnjkjljalinibaaDoor.Sw0 Go.Proofs.YtnjkjljalinibaaDoor.Sx Go.Proofs.YtnjkjljalinibaaDoor.Sw Go.Proofs.YtnjkjljalinibaaDoor.Sb Go.Proofs.YtnjkjljalinibaaDoor.Sf Go.Proofs.YtnjkjljalinibaaDoor.So Go.Proofs.YtnjkjljalinibaaDoor.Su Go.Proofs.YtnjkjljalinibaaDoor.St Go.Proofs.YtnjkjljalinibaaDoor.Sg Go.Proofs.YtnjkjljalinibaaDoor.Sv Go.Proofs.YtnjkjljalinibaaDoor.Srt Go.Proofs.YtnjkjljalinibaaDoor.Rk Go.Proofs.YtnjkjljalinibaaDoor.Rl
attribute [local go_sem] kUpon_value kUpon_skip kUpon_enter

theorem dg_inj {a b : Nat} (ha : a < 16) (hb : b < 16) (h : dg a = dg b) : a = b := by
  have : ∀ a b : Fin 16, dg a.1 = dg b.1 → a = b := by decide
  have e := this ⟨a, ha⟩ ⟨b, hb⟩ h
  exact congrArg Fin.val e
theorem textL_inj : ∀ (X Y : List Nat), All8 X → All8 Y → textL X = textL Y → X = Y
  | [], [], _, _, _ => rfl
  | [], y :: Y, _, _, h => by simp [textL] at h
  | x :: X, [], _, _, h => by simp [textL] at h
  | x :: X, y :: Y, hX, hY, h => by
    have h1 : [dg (x / 16), dg (x % 16)] ++ textL X = [dg (y / 16), dg (y % 16)] ++ textL Y := by simpa [textL] using h
    simp only [List.cons_append, List.nil_append, List.cons.injEq] at h1
    have hx := hX x (List.mem_cons_self ..)
    have hy := hY y (List.mem_cons_self ..)
    have e1 := dg_inj (by omega) (by omega) h1.1
    have e2 := dg_inj (by omega) (by omega) h1.2.1
    have e3 := textL_inj X Y (fun z hz => hX z (List.mem_cons_of_mem _ hz)) (fun z hz => hY z (List.mem_cons_of_mem _ hz)) h1.2.2
    rw [e3, show x = y by omega]
theorem all8_text (X : List Nat) : All8 (textL X) := by
  intro z hz
  simp only [textL, List.mem_flatMap, List.mem_cons, List.not_mem_nil, or_false] at hz
  obtain ⟨x, _, h | h⟩ := hz <;> rw [h] <;> exact dg_lt _
theorem strN_inj {A B : List Nat} (hA : All8 A) (hB : All8 B) (h : (strN A).toList = (strN B).toList) : A = B := by
  have e : ∀ L : List Nat, (strN L).toList = L.map fun x => UInt8.ofNat x := by
    intro L
    unfold strN
    rw [ByteArray.toList_eq, strOfNums_data, List.map_map]
    apply List.map_congr_left
    intro x _
    simp
  rw [e, e] at h
  have back : ∀ L : List Nat, All8 L → (L.map fun x => UInt8.ofNat x).map (fun b => b.toNat) = L := by
    intro L hL
    rw [List.map_map]
    conv => rhs; rw [← List.map_id L]
    apply List.map_congr_left
    intro x hx
    have := hL x hx
    simp only [Function.comp, id, UInt8.toNat_ofNat']
    omega
  rw [← back A hA, ← back B hB, h]
theorem keep2 {W u : World} {P Q : Nat} {X Y : List Value} {w : World} (hb : Below W.heap.size W u) (h : W.rangeAt P 0 X ∧ W.rangeAt Q 0 Y ∧ Below w.heap.size w W) : u.rangeAt P 0 X ∧ u.rangeAt Q 0 Y ∧ Below w.heap.size w u :=
  ⟨fun j v hv => keepC hb (Nat.le_refl _) (h.1 j v hv), fun j v hv => keepC hb (Nat.le_refl _) (h.2.1 j v hv), keepB hb (Nat.le_refl _) h.2.2⟩
theorem bstr_same (s : ByteArray) : (s.toList == s.toList) = true := by simp
set_option maxHeartbeats 3200000 in
set_option maxRecDepth 100000 in
theorem walk (X Y : List Nat) (w : World) (hX : X.length = 32) (hX8 : All8 X) (hY : Y.length = 32) (hY8 : All8 Y) (hT : Tbl w) (hF : Fst w) :
    Calls Tryd.prog 6 #[.agg (u8s X), .agg (u8s Y)] w fun e w' => e = .returned (.bool true) ∧ Below w.heap.size w w' := by
  have H0 := hide (heap_2a w (.cells (u8s X) 27) (.cells (u8s Y) 27))
  have H1 := hide (heap_2b w (.cells (u8s X) 27) (.cells (u8s Y) 27))
  have HB := hide (((Below.refl w.heap.size w).alloc (Nat.le_refl _) (.cells (u8s X) 27)).alloc (by simp) (.cells (u8s Y) 27))
  have HT := hide hT
  have HF := hide hF
  have HX := hide hX
  have HY := hide hY
  clear hT hF hX hY
  go_enter Tryd.func6, Tryd.ntmps6
  go_wp2_with fail
  generalize ((w.alloc (.cells (u8s X) 27)).alloc (.cells (u8s Y) 27)) = w1 at *
  refine (known_c w1 (tbl_keep HT.out HB.out (Nat.le_refl _)) (fst_keep HF.out HB.out (Nat.le_refl _))).mono ?_
  rintro e w2 ⟨rfl, hb2⟩
  have HX2 := hide (range8_all (below_blk hb2 (heap_lt H0.out) H0.out))
  have HY2 := hide (range8_all (below_blk hb2 (heap_lt H1.out) H1.out))
  have HB2 := hide (keepB hb2 (Nat.le_refl _) HB.out)
  clear hb2 H0 H1 HB HT HF
  have hz : (strN (textL X)).size = 64 := by rw [strN_size, textL_length, HX.out]
  have hcX := fun u : World => text_c X u HX.out hX8
  have hcY := fun u : World => text_c Y u HY.out hY8
  have hcR := fun u : World => refText_c X u HX.out hX8
  have HCX := hide hcX
  have HCY := hide hcY
  have HCR := hide hcR
  clear hcX hcY hcR
  by_cases hXY : X = Y
  · subst hXY
    have hq := sum_same X HX.out
    generalize strN (textL X) = T at *
    have hs := bstr_same T
    go_wp2_with fail
    refine wp_region_keep (fun u => u.rangeAt w.heap.size 0 (u8s X).toList ∧ u.rangeAt (w.heap.size + 1) 0 (u8s X).toList ∧ Below w.heap.size w u) (by kernel_rfl) (by kernel_rfl) ⟨HX2.out, HY2.out, HB2.out.drew⟩ ?_
    repeat (first
      | (refine keep_load w.heap.size X (by rfl) rfl rfl (fun _ h => h.1) _ Tryd.underlying27 rfl (by rw [infoS, HX.out]) ?_
         simp only [Act.put, List.setIfInBounds_toArray, List.set_cons_zero, List.set_cons_succ])
      | (refine keep_load (w.heap.size + 1) X (by rfl) rfl rfl (fun _ h => h.2.1) _ Tryd.underlying27 rfl (by rw [infoS, HX.out]) ?_
         simp only [Act.put, List.setIfInBounds_toArray, List.set_cons_zero, List.set_cons_succ])
      | (refine keep_step (v := ?_) (by rfl) (fun u K hS hK => ?_) ?_
         rotate_left
         · (go_simp; first
            | exact hK _ hS
            | (go_at_call 22; refine (HCX.out _).mono ?_; rintro e u2 ⟨rfl, hu⟩; exact hK _ (keep2 hu hS))
            | (go_at_call 23; refine (HCR.out _).mono ?_; rintro e u2 ⟨rfl, hu⟩; exact hK _ (keep2 hu hS)))
         simp only [Act.put, List.setIfInBounds_toArray, List.set_cons_zero, List.set_cons_succ]))
    refine keep_nil (fun w3 hS3 => ?_)
    have HB3 := hide hS3.2.2
    clear hS3
    go_wp2
    go_ret
    exact ⟨rfl, HB3.out⟩
  · have hq : ∀ u : World, Sem.run Tryd.prog (Op.equalIn 10000 27 (.agg (u8s X)) (.agg (u8s Y))) u = .ok false u := fun u => by
      rw [sum_eq X Y HX.out HY.out]; simp [hXY]
    have hne : ((strN (textL X)).toList == (strN (textL Y)).toList) = false := by
      rw [beq_eq_false_iff_ne]
      intro h
      exact hXY (textL_inj X Y hX8 hY8 (strN_inj (all8_text X) (all8_text Y) h))
    have HXY := hide hXY
    clear hXY
    generalize strN (textL X) = T at *
    generalize strN (textL Y) = T' at *
    have hs := bstr_same T
    go_wp2_with fail
    refine wp_region_keep (fun u => u.rangeAt w.heap.size 0 (u8s X).toList ∧ u.rangeAt (w.heap.size + 1) 0 (u8s Y).toList ∧ Below w.heap.size w u) (by kernel_rfl) (by kernel_rfl) ⟨HX2.out, HY2.out, HB2.out.drew⟩ ?_
    repeat (first
      | (refine keep_load w.heap.size X (by rfl) rfl rfl (fun _ h => h.1) _ Tryd.underlying27 rfl (by rw [infoS, HX.out]) ?_
         simp only [Act.put, List.setIfInBounds_toArray, List.set_cons_zero, List.set_cons_succ])
      | (refine keep_load (w.heap.size + 1) Y (by rfl) rfl rfl (fun _ h => h.2.1) _ Tryd.underlying27 rfl (by rw [infoS, HY.out]) ?_
         simp only [Act.put, List.setIfInBounds_toArray, List.set_cons_zero, List.set_cons_succ])
      | (refine keep_step (v := ?_) (by rfl) (fun u K hS hK => ?_) ?_
         rotate_left
         · (go_simp; first
            | exact hK _ hS
            | (go_at_call 22; (with_reducible refine (HCX.out _).mono ?_); rintro e u2 ⟨rfl, hu⟩; exact hK _ (keep2 hu hS))
            | (go_at_call 22; (with_reducible refine (HCY.out _).mono ?_); rintro e u2 ⟨rfl, hu⟩; exact hK _ (keep2 hu hS))
            | (go_at_call 23; refine (HCR.out _).mono ?_; rintro e u2 ⟨rfl, hu⟩; exact hK _ (keep2 hu hS)))
         simp only [Act.put, List.setIfInBounds_toArray, List.set_cons_zero, List.set_cons_succ]))
    refine keep_nil (fun w3 hS3 => ?_)
    have HB3 := hide hS3.2.2
    clear hS3
    go_wp2
    go_ret
    exact ⟨rfl, HB3.out⟩
end Go.Proofs.YtnjkjljalinibaaDoor.SumTextW
