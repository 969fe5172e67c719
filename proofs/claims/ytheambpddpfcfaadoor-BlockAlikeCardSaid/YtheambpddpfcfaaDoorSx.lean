/- mix: a block worked into the state. -/
import Derived.Test.YtheambpddpfcfaaDoorSxa
namespace Go.Proofs.YtheambpddpfcfaaDoor.Sx
set_option linter.unusedVariables false
set_option linter.unusedSimpArgs false
set_option maxRecDepth 100000
open Go.ChangeShapes Go.WideShapes Go.ChangeAt Go.RowKit
open Go.Proofs.YtheambpddpfcfaaDoor.Wu Go.Proofs.YtheambpddpfcfaaDoor.Sm Go.Proofs.YtheambpddpfcfaaDoor.Sk Go.Proofs.YtheambpddpfcfaaDoor.Sc Go.Proofs.YtheambpddpfcfaaDoor.Sxa
set_option maxHeartbeats 3200000 in
set_option maxRecDepth 100000 in
theorem mix_c (g : Nat) (s : S8) (B : List Nat) (u l : Int) (w : World) (hs : s.ok) (hB : B.length = 64) (h8 : All8 B) (h : Hsh w g s B u l) (ht : Tbl w) :
    Calls Tryd.prog 112 #[.pointer (some ⟨g, 0, none⟩)] w fun e w' => e = .returned (.tuple #[]) ∧ Hsh w' g (compress s B) B u l ∧ w.grownBy w' (some g) := by
  have H := hide h
  have HT := hide ht
  have HB := hide hB
  have hr := hide (hsh_range h)
  have hg := heap_lt h
  clear h ht hB
  go_enter Tryd.func112, Tryd.ntmps112
  go_wp2_with (refine wpList_load_mid rfl 173 (.tmp 19) rfl g 8 rfl _ _ hr.out Tryd.underlying173 rfl (by rw [info45]; simp [u8s_size, HB.out]) ?_)
  rw [Array.toArray_toList]
  refine (schedule_c B _ HB.out h8).mono ?_
  rintro e w1 ⟨rfl, hb1⟩
  have HWl := hide (sched_length B)
  have hW32 := sched_all h8
  generalize hWW : sched B = W at *
  have HWW := hide hWW
  clear hWW
  have H1 := hide (below_blk hb1 hg H.out)
  have HT1 := hide (tbl_keep HT.out hb1 (Nat.le_refl _))
  have hg1 := hb1.size
  have Hgr1 : Hid (w.grownBy w1 (some g)) := ⟨hb1.os, hb1.tape, hb1.output, hb1.size, fun k hk _ => hb1.block k hk⟩
  have Hz := hide (heap_last w1 (.cells (u32s (zeros 64)) 216))
  have ht := hide (there_all Hz.out)
  clear hb1
  go_wp2_with (refine wpList_store_mid rfl 216 (.tmp 2) (.tmp 21) rfl w1.heap.size 0 _ rfl rfl ?_ ?_ ?_ ?_)
  · have := ht.out
    rw [zeros_length] at this
    rw [u32s_size, HWl.out, zlit32]
    exact this
  · rw [info62]; simp [u32s_size, HWl.out]
  · exact u32s_one W
  have h3 := blk_setCells (u32s W).toList 0 (w1.alloc (.cells (u32s (zeros 64)) 216)) (u32s (zeros 64)).toList (by simp [u32s_size, HWl.out, zeros_length]) (by rw [Array.toArray_toList]; exact Hz.out)
  rw [show (u32s (zeros 64)).toList.take 0 ++ (u32s W).toList ++ (u32s (zeros 64)).toList.drop (0 + (u32s W).toList.length) = (u32s W).toList by simp [u32s_size, HWl.out, zeros_length], Array.toArray_toList] at h3
  have hb3 : Below w1.heap.size w1 ((w1.alloc (.cells (u32s (zeros 64)) 216)).setCells w1.heap.size 0 (u32s W).toList) := below_setCells _ _ _ _ (below_new _ _) (Nat.le_refl _)
  have hgS : g < w1.heap.size := by omega
  have H3 := hide (below_blk hb3 hgS H1.out)
  have HT3 := hide (tbl_keep HT1.out hb3 (Nat.le_refl _))
  have HS3 := hide h3
  have Hgr3 : Hid (w.grownBy ((w1.alloc (.cells (u32s (zeros 64)) 216)).setCells w1.heap.size 0 (u32s W).toList) (some g)) :=
    ⟨hb3.os.trans Hgr1.out.os, hb3.tape.trans Hgr1.out.tape, hb3.output.trans Hgr1.out.output, Nat.le_trans Hgr1.out.size hb3.size, fun k hk hne => (hb3.block k (by omega)).trans (Hgr1.out.block k hk hne)⟩
  clear h3 hb3 H1 HT1 Hgr1 Hz ht H HT hr
  rw [zlit32]
  simp only [Act.put, List.setIfInBounds_toArray, List.set_cons_zero, List.set_cons_succ]
  generalize ((w1.alloc (.cells (u32s (zeros 64)) 216)).setCells w1.heap.size 0 (u32s W).toList) = w3 at *
  generalize w1.heap.size = gs at *
  as_aux_lemma =>
    have c0 := hsh_state H3.out 0 (by omega)
    have c1 := hsh_state H3.out 1 (by omega)
    have c2 := hsh_state H3.out 2 (by omega)
    have c3 := hsh_state H3.out 3 (by omega)
    have c4 := hsh_state H3.out 4 (by omega)
    have c5 := hsh_state H3.out 5 (by omega)
    have c6 := hsh_state H3.out 6 (by omega)
    have c7 := hsh_state H3.out 7 (by omega)
    simp only [S8.list, List.getD_cons_zero, List.getD_cons_succ] at c0 c1 c2 c3 c4 c5 c6 c7
    go_wp2_with fail
    go_quiet (fail)
    have H4 := hide (drew_facts nq H3.out HT3.out Hgr3.out HS3.out)
    clear c0 c1 c2 c3 c4 c5 c6 c7 H3 HT3 Hgr3 HS3
    generalize w3.drewN nq = w4 at *
    have H3 := hide H4.out.1
    have HT3 := hide H4.out.2.1
    have Hgr3 := hide H4.out.2.2.1
    have HS3 := hide H4.out.2.2.2
    clear H4
    have c0 := hsh_state H3.out 0 (by omega)
    have c1 := hsh_state H3.out 1 (by omega)
    have c2 := hsh_state H3.out 2 (by omega)
    have c3 := hsh_state H3.out 3 (by omega)
    have c4 := hsh_state H3.out 4 (by omega)
    have c5 := hsh_state H3.out 5 (by omega)
    have c6 := hsh_state H3.out 6 (by omega)
    have c7 := hsh_state H3.out 7 (by omega)
    simp only [S8.list, List.getD_cons_zero, List.getD_cons_succ] at c0 c1 c2 c3 c4 c5 c6 c7
    go_wp2_with fail
    go_quiet (fail)
    have H5 := hide (drew_facts nq H3.out HT3.out Hgr3.out HS3.out)
    clear c0 c1 c2 c3 c4 c5 c6 c7 H3 HT3 Hgr3 HS3
    generalize w4.drewN nq = w5 at *
    have Hr3 := hide (rangeAt_all H5.out.2.2.2)
    go_wp2_with (refine wpList_load_mid rfl 216 (.tmp 2) rfl gs 0 rfl _ _ Hr3.out Tryd.underlying216 rfl (by rw [info62]; simp [u32s_size, HWl.out]) ?_)
    rw [Array.toArray_toList]
    clear Hr3
    go_loopw [63, 3, 4, 5, 6, 7, 8, 9, 10, 11, 12, 13, 14] (fun i ra rb rc rd re rf rg rh _ _ _ _ wr => ∃ k : Nat, k ≤ 64 ∧ i = .int .i64 k ∧ ra = .int .u32 (((rounds W s k).a : Nat) : Int) ∧ rb = .int .u32 (((rounds W s k).b : Nat) : Int) ∧ rc = .int .u32 (((rounds W s k).c : Nat) : Int) ∧ rd = .int .u32 (((rounds W s k).d : Nat) : Int) ∧ re = .int .u32 (((rounds W s k).e : Nat) : Int) ∧ rf = .int .u32 (((rounds W s k).f : Nat) : Int) ∧ rg = .int .u32 (((rounds W s k).g : Nat) : Int) ∧ rh = .int .u32 (((rounds W s k).h : Nat) : Int) ∧ Hsh wr g s B u l ∧ Tbl wr ∧ w.grownBy wr (some g)) (fun i _ _ _ _ _ _ _ _ _ _ _ _ _ => 64 - (intOf i).toNat)
    case atStart => exact ⟨0, by omega, rfl, rfl, rfl, rfl, rfl, rfl, rfl, rfl, rfl, H5.out.1, H5.out.2.1, H5.out.2.2.1⟩
    case round =>
      clear H5
      obtain ⟨k, hk, rfl, rfl, rfl, rfl, rfl, rfl, rfl, rfl, rfl, h1, h2, h3⟩ := hrel
      have H1 := hide h1
      have H2 := hide h2
      have H3 := hide h3
      clear h1 h2 h3
      have hv := rounds_ok hs W k
      obtain ⟨b1, b2, b3, b4, b5, b6, b7, b8⟩ := S8.bd hv
      by_cases hlt : k < 64
      · have hix := index_row W k HWl.out hlt
        have hct := tbl_at H2.out k hlt
        have hK := all32_getD Ks_all k
        have hWk := all32_getD hW32 k
        have Hst : Hid ((rounds W s k).step (Ks.getD k 0) (W.getD k 0) = rounds W s (k + 1)) := rfl
        generalize Ks.getD k 0 = kk at *
        generalize W.getD k 0 = wk at *
        generalize rounds W s k = v at *
        have Ho := hide (one_is v kk wk hv hK hWk)
        have Ht := hide (two_is v)
        have hk0 : (0 : Int) ≤ (k : Int) := by omega
        have hk1 : (k : Int) < 64 := by omega
        have hd : decide ((k : Int) < 64) = true := by simp; omega
        go_wp2_with fail
        have HG := hide H3.out
        go_region_held3 (fun u => u.cell? ⟨2, k, none⟩ = some (.int .u32 (kk : Int)))
          (first | exact hct | assumption)
          (first
            | (go_at_call 122; refine (bS1_c v.e _ b5).mono ?_; rintro e u ⟨rfl, rfl⟩)
            | (go_at_call 123; refine (chs_c v.e v.f v.g _ b5 b6 b7).mono ?_; rintro e u ⟨rfl, rfl⟩))
        rw [Ho.out]
        go_wp2_with fail
        refine (bS0_c v.a _ b1).mono ?_
        rintro e u ⟨rfl, rfl⟩
        go_wp2_with fail
        refine (maj_c v.a v.b v.c _ b1 b2 b3).mono ?_
        rintro e u ⟨rfl, rfl⟩
        have ht2 := two_is v
        have ha1 := add_is (one v kk wk) (two v)
        have ha2 := add_is v.d (one v kk wk)
        clear hix hct Ho Ht
        go_wp2
        go_roundw
        case rel =>
          refine ⟨k + 1, by omega, by go_num, ?_⟩
          rw [← Hst.out]
          refine ⟨congrArg (Value.int .u32) ?_, rfl, rfl, rfl, congrArg (Value.int .u32) ?_, rfl, rfl, rfl, H1.out, H2.out, ⟨H3.out.os, H3.out.tape, H3.out.output, H3.out.size, H3.out.block⟩⟩
          · show _ = (((one v kk wk + two v) % 4294967296 : Nat) : Int)
            omega
          · show _ = (((v.d + one v kk wk) % 4294967296 : Nat) : Int)
            omega
        case measure => simp [intOf]; omega
      · have hkl : k = 64 := by omega
        have Hc : Hid (compress s B = s.add (rounds W s k)) := by unfold Hid compress; rw [HWW.out, hkl]
        have hd : decide ((k : Int) < 64) = false := by simp; omega
        have H1' := hide (hsh_l (rounds W s k) H1.out)
        clear HWW H1 hkl
        generalize rounds W s k = v at *
        go_wp2_with (refine wpList_build_to rfl 172 _ rfl (some 110) rfl #[.int .u32 (v.a : Int), .int .u32 (v.b : Int), .int .u32 (v.c : Int), .int .u32 (v.d : Int), .int .u32 (v.e : Int), .int .u32 (v.f : Int), .int .u32 (v.g : Int), .int .u32 (v.h : Int)] (by as_aux_lemma => kernel_rfl) ?_)
        obtain ⟨wo, rfl⟩ : ∃ wo : World, wo = wr := ⟨_, rfl⟩
        go_loopw [111, 15, 16] (fun i _ _ wr => ∃ j : Nat, j ≤ 8 ∧ i = .int .i64 j ∧ HshL wr g ((s.add v).list.take j ++ s.list.drop j) B u l ∧ w.grownBy wr (some g)) (fun i _ _ _ => 8 - (intOf i).toNat)
        case atStart => exact ⟨0, by omega, rfl, H1'.out, H3.out⟩
        case round =>
          clear H1' H3 H2
          obtain ⟨j, hj, rfl, h1, h3⟩ := hrel
          have H1 := hide h1
          have H3 := hide h3
          clear h1 h3
          by_cases hlj : j < 8
          · have hix := index8 v j hlj
            have hcs := hshl_state H1.out j (by rw [part_len s v j hj]; exact hlj)
            have hfs := blk_free (i := j) H1.out
            have Hps := hide (part_step s v j hlj)
            have HS := hide (hshl_set (w := wr.drew) H1.out j ((s.list.getD j 0 + v.list.getD j 0) % 4294967296) (by rw [part_len s v j hj]; exact hlj))
            rw [part_at s v j hlj] at hcs
            generalize s.list.getD j 0 = x at *
            generalize v.list.getD j 0 = y at *
            have hj0 : (0 : Int) ≤ (j : Int) := by omega
            have hj1 : (j : Int) < 8 := by omega
            have hdj : decide ((j : Int) < 8) = true := by simp; omega
            have hxy := add_is x y
            go_wp2_with fail
            go_region
            clear hix hcs hfs
            go_wp2
            go_roundw
            case rel =>
              refine ⟨j + 1, by omega, by go_num, ?_, ?_⟩
              · rw [← Hps.out]
                have e : (((x + y) % 4294967296 : Nat) : Int) = ((x : Int) + (y : Int)) % 4294967296 := by omega
                have h := HS.out
                rw [e] at h
                exact h
              · have b := H3.out
                refine ⟨b.os, b.tape, b.output, ?_, ?_⟩
                · have := b.size
                  simpa using this
                · intro k hk hne
                  have e : (wr.setCell ⟨g, j, none⟩ (Value.int IntKind.u32 (((x : Int) + (y : Int)) % 4294967296))).heap[k]? = wr.heap[k]? := Below.heap_setCell _ _ _ _ (fun h => hne (congrArg some h))
                  exact e.trans (b.block k hk hne)
            case measure => simp [intOf]; omega
          · have hjl : j = 8 := by omega
            subst hjl
            rw [show ((8 : Nat) : Int) = 8 from rfl]
            have H5 := hide (l_hsh v H1.out)
            rw [← Hc.out] at H5
            clear H1
            go_wp2
            exact bodyPost_end (v := .tuple #[]) (by simp [results, Tryd.results112]) rfl ⟨rfl, H5.out, H3.out⟩
end Go.Proofs.YtheambpddpfcfaaDoor.Sx
