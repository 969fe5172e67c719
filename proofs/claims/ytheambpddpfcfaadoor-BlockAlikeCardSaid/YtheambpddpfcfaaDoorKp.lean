/- The head of layer 6's statements. -/
import Derived.Test.YtheambpddpfcfaaDoorKo
import Derived.Test.YtheambpddpfcfaaDoorKf
import Derived.Lib.SlBytesConst
namespace Go.Proofs.YtheambpddpfcfaaDoor.Kp
set_option linter.unusedVariables false
set_option linter.unusedSimpArgs false
set_option maxRecDepth 100000
open Go.ChangeShapes Go.WideShapes Go.ChangeAt Go.RowKit
open Go.Proofs.YtheambpddpfcfaaDoor.Wu Go.Proofs.YtheambpddpfcfaaDoor.Sm Go.Proofs.YtheambpddpfcfaaDoor.Sh Go.Proofs.YtheambpddpfcfaaDoor.Ba Go.Proofs.YtheambpddpfcfaaDoor.Bp Go.Proofs.YtheambpddpfcfaaDoor.Ka Go.Proofs.YtheambpddpfcfaaDoor.Kb Go.Proofs.YtheambpddpfcfaaDoor.Kc Go.Proofs.YtheambpddpfcfaaDoor.Kd Go.Proofs.YtheambpddpfcfaaDoor.Ke Go.Proofs.YtheambpddpfcfaaDoor.Kf Go.Proofs.YtheambpddpfcfaaDoor.Rk Go.Proofs.YtheambpddpfcfaaDoor.Rh Go.Proofs.YtheambpddpfcfaaDoor.Rw Go.Proofs.YtheambpddpfcfaaDoor.Rb1 Go.Proofs.YtheambpddpfcfaaDoor.Kg Go.Proofs.YtheambpddpfcfaaDoor.Kh Go.Proofs.YtheambpddpfcfaaDoor.Ki Go.Proofs.YtheambpddpfcfaaDoor.Kj Go.Proofs.YtheambpddpfcfaaDoor.Km Go.Proofs.YtheambpddpfcfaaDoor.Kk Go.Proofs.YtheambpddpfcfaaDoor.Kl Go.Proofs.YtheambpddpfcfaaDoor.Kn Go.Proofs.YtheambpddpfcfaaDoor.Ko
open Go.Proofs.YtheambpddpfcfaaDoor.Sn (Fst fst_keep)
open Go.Proofs.YtheambpddpfcfaaDoor.Sxa (Tbl tbl_keep)
open Go.Proofs.YtheambpddpfcfaaDoor.Su (cutL Cnt)
theorem wk_ab : wkN [97, 98] = 19136707 := by decide +kernel
theorem wk_c : wkN [99] = 6488163 := by decide +kernel
theorem mk_abc (k : Nat) : mkB [97, 98, 99] 2 k 2 = [⟨19136707, cutL k (sha [97, 98])⟩, ⟨6488163, cutL k (sha [99])⟩] := by
  have e0 : piece [97, 98, 99] 2 0 = [97, 98] := rfl
  have e1 : piece [97, 98, 99] 2 1 = [99] := rfl
  have er : List.range 2 = [0, 1] := rfl
  unfold mkB blkOf
  rw [er]
  simp only [List.map_cons, List.map_nil, e0, e1, wk_ab, wk_c]
theorem grp_abc (X Y : List Nat) : grp 2 3 [⟨19136707, X⟩, ⟨6488163, Y⟩] 2 6488163 = [⟨1, 1, ⟨6488163, Y⟩⟩] := by
  have er : List.range 2 = [0, 1] := rfl
  unfold grp plcs
  rw [er]
  simp [List.getD]
theorem found_abc {X Y : List Nat} {i : Int} {ok : Bool} (h : Fnd (grp 2 3 [⟨19136707, X⟩, ⟨6488163, Y⟩] 2 6488163) 1 ⟨6488163, Y⟩ i ok) : i = 1 ∧ ok = true := by
  rw [grp_abc] at h
  rcases h with ⟨_, _, h⟩ | ⟨p, h1, h2, h3⟩
  · simp [isIt] at h
  · simp only [List.find?_cons, List.find?_nil] at h3
    split at h3
    · injection h3 with h3
      subst h3
      exact ⟨h2, h1⟩
    · cases h3
theorem src_const (w : World) (xs : List Nat) (f : Nat × Nat) (h8 : All8 xs) : SrcB (w.alloc (.cells (u8s xs) 5 f)) (some ⟨w.heap.size, 0, none⟩) xs.length xs :=
  ⟨rfl, h8, w.heap.size, 0, fun _ => rfl, fun i hi => by rw [Nat.zero_add]; exact row8 (heap_last _ _) hi⟩
set_option maxHeartbeats 3200000 in
theorem sums_c (w : World) (hT : Tbl w) (hF : Fst w) : Calls Tryd.prog 15 #[] w fun e w' => e = .returned (.bool true) ∧ Below w.heap.size w w' := by
  have HTF := hide (fun (u : World) (hu : Below w.heap.size w u) => (⟨tbl_keep hT hu (Nat.le_refl _), fst_keep hF hu (Nat.le_refl _)⟩ : Tbl u ∧ Fst u))
  have kc := fun (w : World) (C : Array Value) (n c : Nat) => Lib.run_convert_bytes_const (P := Tryd.prog) w 22 5 C n c Tryd.underlying22 Tryd.underlying5
  have hs0 := src_const w [97, 98, 99] (3, 4) (by intro z hz; simp at hz; omega)
  have HM := hide (make_ok (some ⟨w.heap.size, 0, none⟩) 3 3 [97, 98, 99] 2 4 2 (w.alloc (.cells (u8s [97, 98, 99]) 5 (3, 4))) hs0 (by omega) (by omega) (by decide) (by decide) (HTF.out _ (below_new _ _)).1 (HTF.out _ (below_new _ _)).2)
  have HB0 := hide (below_new w (.cells (u8s [97, 98, 99]) 5 (3, 4)))
  simp only [Int.cast_ofNat_Int] at HM
  rw [mk_abc 4] at HM
  obtain ⟨X, hX⟩ : ∃ X, X = cutL 4 (sha [97, 98]) := ⟨_, rfl⟩
  obtain ⟨Y, hY⟩ : ∃ Y, Y = cutL 4 (sha [99]) := ⟨_, rfl⟩
  have hch : checkE 2 4 3 [⟨19136707, X⟩, ⟨6488163, Y⟩] = 0 := by
    have := mk_check [97, 98, 99] 2 4 2 3 (by decide) (by decide)
    rw [mk_abc 4, ← hX, ← hY] at this
    exact this
  have Hch := hide hch
  have HY := hide hY
  rw [← hX, ← hY] at HM
  clear hT hF hs0 hX hY hch
  go_enter Tryd.func15, Tryd.ntmps15
  go_wp2_with fail
  refine HM.out.mono ?_
  rintro e w1 ⟨v, rfl, ho, hb1⟩
  have HB1 := hide (keepB hb1 (Nat.le_refl _) HB0.out)
  have his := ho.is
  obtain ⟨_, av, cv, hv, hcv, hcm, _⟩ := his
  simp only [List.length_cons, List.length_nil, Nat.zero_add, Nat.reduceAdd] at hv hcv
  subst hv
  have HI := hide (fun (u : World) (hu : Below w1.heap.size w1 u) => ho.is.below hu)
  clear ho hb1 HM HB0
  unfold sigV
  have HCk := hide (fun (u : World) (hu : Below w1.heap.size w1 u) => check_c u 2 4 3 (.slice av 2 cv) _ (HI.out u hu) (by omega) (by simp))
  rw [Hch.out] at HCk
  have HSp := hide (fun (u : World) (hu : Below w1.heap.size w1 u) => Span_c u 2 4 3 1 1 av 2 cv _ (HI.out u hu) rfl Hch.out (by omega) (by decide))
  simp only [Int.cast_ofNat_Int, Nat.one_mul] at HSp
  have HIx := hide (fun (u : World) (hu : Below w1.heap.size w1 u) => index_c u 2 4 3 2 cv av _ (HI.out u hu) rfl Hch.out)
  simp only [Int.cast_ofNat_Int] at HIx
  unfold sigV at HCk HSp HIx
  clear kc
  have HS1 := hide (heap_last w1 (.cells #[.int .i64 2, .int .i64 4, .int .i64 3, .slice av 2 cv] 26))
  have Hn1 := hide (below_new w1 (.cells #[.int .i64 2, .int .i64 4, .int .i64 3, .slice av 2 cv] 26))
  go_wp2_with fail
  generalize (w1.alloc (.cells #[.int .i64 2, .int .i64 4, .int .i64 3, .slice av 2 cv] 26)) = w2 at *
  (with_reducible refine Calls.mono (HCk.out w2 Hn1.out) ?_)
  rintro e w3 ⟨rfl, hb3⟩
  have HS3 := hide (below_blk hb3 (heap_lt HS1.out) HS1.out)
  have Hn3 := hide (keepB hb3 (Nat.le_refl _) Hn1.out)
  clear hb3 HS1 Hn1 HCk
  obtain ⟨c0, c1, c2, c3⟩ := Sig4.cells (T := 26) HS3.out
  go_wp2_with fail
  (with_reducible refine Calls.mono (HSp.out w3 Hn3.out) ?_)
  rintro e w4 ⟨rfl, hb4⟩
  have HS4 := hide (below_blk hb4 (heap_lt HS3.out) HS3.out)
  have Hn4 := hide (keepB hb4 (Nat.le_refl _) Hn3.out)
  clear hb4 HS3 Hn3 HSp c0 c1 c2 c3
  obtain ⟨c0, c1, c2, c3⟩ := Sig4.cells (T := 26) HS4.out
  go_wp2_with fail
  (with_reducible refine Calls.mono (HIx.out w4 Hn4.out) ?_)
  rintro e w5 ⟨rfl, hTb5, ⟨es, hTab5⟩, hb5⟩
  have HS5 := hide (below_blk hb5 (heap_lt HS4.out) HS4.out)
  have Hn5 := hide (keepB hb5 (Nat.le_refl _) Hn4.out)
  have HTb5 := hide hTb5
  have HTab5 := hide hTab5
  clear hb5 hTb5 hTab5 HS4 Hn4 HIx c0 c1 c2 c3
  have kc := fun (w : World) (C : Array Value) (n c : Nat) => Lib.run_convert_bytes_const (P := Tryd.prog) w 22 5 C n c Tryd.underlying22 Tryd.underlying5
  generalize w4.heap.size = T4 at *
  have hs5 := src_const w5 [99] (1, 2) (by intro z hz; simp at hz; omega)
  have hn5 := below_new w5 (.cells (u8s [99]) 5 (1, 2))
  have HW := hide (weak_b (some ⟨w5.heap.size, 0, none⟩) 1 1 [99] (w5.alloc (.cells (u8s [99]) 5 (1, 2))) hs5 (by omega))
  have hTbn := heap_old HTb5.out (.cells (u8s [99]) 5 (1, 2))
  have hTab := HTab5.out.below hn5
  have HS6 := hide (heap_old HS5.out (.cells (u8s [99]) 5 (1, 2)))
  have Hn6 := hide (keepB hn5 (Nat.le_refl _) Hn5.out)
  have HTb6 := hide hTbn
  have HTab6 := hide hTab
  clear hs5 hn5 hTbn hTab HS5 Hn5 HTb5 HTab5
  go_wp2_with fail
  refine Calls.mono HW.out ?_
  clear HW
  generalize (w5.alloc (.cells #[.int .u8 99] 5 (1, 2))) = w6 at *
  rintro e w7 ⟨rfl, hb7⟩
  have HS7 := hide (below_blk hb7 (heap_lt HS6.out) HS6.out)
  have Hn7 := hide (keepB hb7 (Nat.le_refl _) Hn6.out)
  have HTb7 := hide (below_blk hb7 (heap_lt HTb6.out) HTb6.out)
  have HTab7 := hide (HTab6.out.below hb7)
  clear hb7 HS6 Hn6 HTb6 HTab6
  have HV := hide (value_b 1 [99] w7)
  rw [wk_c] at HV
  go_wp2_with fail
  refine Calls.mono HV.out ?_
  rintro e w8 ⟨rfl, hb8⟩
  have HS8 := hide (below_blk hb8 (heap_lt HS7.out) HS7.out)
  have Hn8 := hide (keepB hb8 (Nat.le_refl _) Hn7.out)
  have HTb8 := hide (below_blk hb8 (heap_lt HTb7.out) HTb7.out)
  have HTab8 := hide (HTab7.out.below hb8)
  clear hb8 HS7 Hn7 HTb7 HTab7 HV
  have hs8 := src_const w8 [99] (1, 2) (by intro z hz; simp at hz; omega)
  have hn8 := below_new w8 (.cells (u8s [99]) 5 (1, 2))
  have htf := HTF.out _ (keepB (keepB hn8 (Nat.le_refl _) Hn8.out) (by exact Nat.le_refl _) HB1.out)
  have HFi := hide (find_some (w8.alloc (.cells (u8s [99]) 5 (1, 2))) (T4 + 1 + 1) (T4 + 1) (T4 + 3) 4 6488163 1 1 (some ⟨w8.heap.size, 0, none⟩) [99] es _ (heap_old HTb8.out _) (HTab8.out.below hn8) (by omega) (by
    show grp 2 3 [⟨19136707, X⟩, ⟨6488163, Y⟩] 2 6488163 ≠ []
    rw [grp_abc]; simp) (by omega) hs8 (by simp) (by simp) htf.1 htf.2 (by
    show (grp 2 3 [⟨19136707, X⟩, ⟨6488163, Y⟩] 2 6488163).length ≤ 4096
    rw [grp_abc]; simp))
  have HS9 := hide (heap_old HS8.out (.cells (u8s [99]) 5 (1, 2)))
  have Hn9 := hide (keepB hn8 (Nat.le_refl _) Hn8.out)
  clear hs8 hn8 htf HS8 Hn8 HTb8 HTab8
  go_wp2_with fail
  refine Calls.mono HFi.out ?_
  clear HFi
  generalize (w8.alloc (.cells #[.int .u8 99] 5 (1, 2))) = w9 at *
  rintro e w10 ⟨i, ok, rfl, hf, hb10⟩
  have hf' : Fnd (grp 2 3 [⟨19136707, X⟩, ⟨6488163, Y⟩] 2 6488163) 1 ⟨6488163, Y⟩ i ok := by
    have := hf
    rw [← HY.out] at this
    exact this
  obtain ⟨rfl, rfl⟩ := found_abc hf'
  have HS10 := hide (below_blk hb10 (heap_lt HS9.out) HS9.out)
  have HB10 := hide (keepB (keepB hb10 (Nat.le_refl _) Hn9.out) (Nat.le_refl _) HB1.out)
  clear hf hf' hb10 HS9 Hn9 kc
  obtain ⟨c0, c1, c2, c3⟩ := Sig4.cells (T := 26) HS10.out
  go_wp2
  go_ret
  exact ⟨rfl, HB10.out⟩
end Go.Proofs.YtheambpddpfcfaaDoor.Kp
