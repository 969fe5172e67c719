/- write: bytes that come are taken, whole blocks mixed in. -/
import Derived.Test.YtheambpddpfcfaaDoorSw0
import Derived.StillTailTactics
namespace Go.Proofs.YtheambpddpfcfaaDoor.Sw
set_option linter.unusedVariables false
set_option linter.unusedSimpArgs false
set_option maxRecDepth 100000
open Go.ChangeShapes Go.WideShapes Go.ChangeAt Go.RowKit
open Go.Proofs.YtheambpddpfcfaaDoor.Wu Go.Proofs.YtheambpddpfcfaaDoor.Sm Go.Proofs.YtheambpddpfcfaaDoor.Sk Go.Proofs.YtheambpddpfcfaaDoor.Sc Go.Proofs.YtheambpddpfcfaaDoor.Sxa Go.Proofs.YtheambpddpfcfaaDoor.Sh Go.Proofs.YtheambpddpfcfaaDoor.Sn Go.Proofs.YtheambpddpfcfaaDoor.Sw0 Go.Proofs.YtheambpddpfcfaaDoor.Sx

set_option maxHeartbeats 1600000 in
set_option maxRecDepth 100000 in
theorem write_c (g : Nat) (M : List Nat) (a : Option Addr) (m cap : Nat) (L : List Nat) (w : World) (hT : Took w g M) (ht : Tbl w) (hs : SrcN w g a m L) (hcap : m ≤ cap)
    (hgt : g ≠ 2) (hbig : M.length + m ≤ 281474976710656) :
    Calls Tryd.prog 99 #[.pointer (some ⟨g, 0, none⟩), .slice a m cap] w fun e w' => e = .returned (.tuple #[]) ∧ Took w' g (M ++ L) ∧ w.grownBy w' (some g) := by
  obtain ⟨hLl, hL8, bb, off, ha, hbg, hcl⟩ := hs
  obtain ⟨B0, hB0, hB8, hBr, hH⟩ := hT
  have HL := hide hLl
  have HA := hide ha
  have HC := hide hcl
  have HBR := hide hBr
  have HB0 := hide hB0
  have H := hide hH
  have HT := hide ht
  have c73 := hsh_len hH hB0
  have f73 := blk_free (i := 73) hH
  clear hLl ha hcl hBr hB0 hH ht
  go_enter Tryd.func99, Tryd.ntmps99
  go_wp2_with fail
  have H0 := hide (hsh_set_len H.out HB0.out ((M.length : Int) + (m : Int)))
  have G0 := hide (grown_setCell (World.grownBy.refl w (some g)) 73 (Value.int IntKind.u64 ((M.length : Int) + (m : Int))))
  have HT0 := hide (grown_tbl G0.out hgt HT.out)
  clear H c73 f73
  generalize (w.setCell ⟨g, 73, none⟩ (Value.int IntKind.u64 ((M.length : Int) + (m : Int)))) = w1 at *
  go_loopw [1, 4] (fun b _ wr => ∃ (k : Nat) (A : Option Addr) (B : List Nat), k ≤ m ∧ b = .slice A (m - k) (cap - k) ∧ (k < m → A = some ⟨bb, off + k, none⟩) ∧ B.length = 64 ∧ All8 B ∧ B.take ((M ++ L.take k).length % 64) = rest (M ++ L.take k) ∧
      Hsh wr g (st (M ++ L.take k)) B (((M ++ L.take k).length % 64 : Nat) : Int) ((M.length : Int) + (m : Int)) ∧ Tbl wr ∧ w.grownBy wr (some g)) (fun b _ _ => match b with | .slice _ n _ => n | _ => 0)
  case atStart =>
    refine ⟨0, a, B0, by omega, rfl, fun h => HA.out h, HB0.out, hB8, ?_, ?_, HT0.out, G0.out⟩
    · rw [List.take_zero, List.append_nil]; exact HBR.out
    · rw [List.take_zero, List.append_nil]; exact H0.out
  case round =>
    clear H0 G0 HT0
    obtain ⟨k, A, B, hk, rfl, hA, hBl, hB8', hBr, hH, hT', hG⟩ := hrel
    have HBl := hide hBl
    have HBr := hide hBr
    have H1 := hide hH
    have HT1 := hide hT'
    have HG := hide hG
    clear hBl hBr hH hT' hG
    by_cases hlt : k < m
    · obtain rfl := hA hlt
      clear hA
      have hmk : (M ++ L.take k).length = M.length + k := by rw [List.length_append, List.length_take, HL.out]; omega
      have HN := hide hmk
      have hu : (M ++ L.take k).length % 64 < 64 := Nat.mod_lt _ (by omega)
      obtain ⟨N, hN⟩ : ∃ N, N = M ++ L.take k := ⟨_, rfl⟩
      have HNd := hide hN
      rw [← hN] at H1 HBr hu HN
      clear hN hmk
      obtain ⟨u, hud⟩ : ∃ u, u = N.length % 64 := ⟨_, rfl⟩
      have HU := hide hud
      rw [← hud] at H1 HBr hu
      clear hud
      obtain ⟨n, hnd⟩ : ∃ n, n = min (64 - u) (m - k) := ⟨_, rfl⟩
      have hn1 : n ≤ 64 - u := by omega
      have hn2 : n ≤ m - k := by omega
      have hn0 : 0 < n := by omega
      have HND := hide hnd
      clear hnd
      have hpl := piece_length L k n (by rw [HL.out]; omega)
      obtain ⟨x, hx⟩ : ∃ x, x = piece L k n := ⟨_, rfl⟩
      have hx8 : All8 x := by rw [hx]; exact piece_all hL8 k n
      rw [← hx] at hpl
      have HX := hide hx
      have HXl := hide hpl
      clear hx hpl
      have hcu := hsh_used H1.out HBl.out
      have hsl := fun v : World => sliceL64 v g 8 u hu
      have hu0 : (0 : Int) ≤ (u : Int) := by omega
      have hu1 : (u : Int) < 64 := by omega
      go_wp2_with fail
      go_still_tail 9, (by kernel_rfl)
      have HBB := hide (take_copied B x u HBl.out (by rw [HXl.out]; omega))
      refine wpList_copy_own rfl (.tmp 25) (.tmp 26) 22 22 rfl 5 Tryd.underlying22 info_u8s g (8 + u) (64 - u) (64 - u) ⟨bb, off + k, none⟩ (m - k) (cap - k) rfl rfl (hcells (st N) B u ((M.length : Int) + (m : Int))).toArray 176 H1.out (b8 x) ?_ ?_ ?_ (b8_one x) ?_
      · rw [b8_length, HXl.out, HND.out]; exact Nat.min_comm _ _
      · intro j v hv
        obtain ⟨hj, rfl⟩ := b8_at hv
        rw [HXl.out] at hj
        rw [Addr.add_mid, HX.out, piece_getD L k n j hj, Nat.add_assoc]
        exact grown_cell (w := wr.drew) (grown_drew HG.out) (hbg (by omega)) (HC.out (k + j) (by omega))
      · rw [b8_length, HXl.out]; simp [hcells_length, HBl.out]; omega
      have H2 := hide (hsh_copied (w := wr.drew) H1.out HBl.out u x (by rw [HXl.out]; omega))
      have HG2 := hide (grown_setRow (grown_drew HG.out) ((hcells (st N) B u ((M.length : Int) + (m : Int))).take (8 + u) ++ (b8 x ++ (hcells (st N) B u ((M.length : Int) + (m : Int))).drop (8 + u + (b8 x).length))).toArray)
      have HT2 := hide (grown_tbl HG2.out hgt HT.out)
      have Hbx := hide ((b8_length x).trans HXl.out)
      have hB8n : All8 (B.take u ++ x ++ B.drop (u + x.length)) := all8_append (all8_append (all8_take hB8' _) hx8) (all8_drop hB8' _)
      show wpList _ _ _ _ (Act.put _ _ (goInt (b8 x).length)) (wr.drew.setRow g ((hcells (st N) B u ((M.length : Int) + (m : Int))).take (8 + u) ++ (b8 x ++ (hcells (st N) B u ((M.length : Int) + (m : Int))).drop (8 + u + (b8 x).length))).toArray)
      rw [Hbx.out]
      rw [Hbx.out] at H2 HG2 HT2
      clear hcu hsl H1 HT1 HG
      generalize (wr.drew.setRow g ((hcells (st N) B u ((M.length : Int) + (m : Int))).take (8 + u) ++ (b8 x ++ (hcells (st N) B u ((M.length : Int) + (m : Int))).drop (8 + u + n))).toArray) = w2 at *
      obtain ⟨B', hB'⟩ : ∃ B', B' = B.take u ++ x ++ B.drop (u + x.length) := ⟨_, rfl⟩
      rw [← hB'] at H2 HBB hB8n
      clear hB'
      have c72 := hsh_used H2.out HBB.out.1
      have f72 := blk_free (i := 72) H2.out
      obtain ⟨A', hA'⟩ : ∃ A', A' = (if cap - k = n then some (⟨bb, off + k, none⟩ : Addr) else (some (⟨bb, off + k, none⟩ : Addr)).map (·.add n)) := ⟨_, rfl⟩
      have hs2 := fun v : World => slice_from v (some ⟨bb, off + k, none⟩) (m - k) (cap - k) n hn2
      rw [← hA', show m - k - n = m - (k + n) by omega, show cap - k - n = cap - (k + n) by omega] at hs2
      have HA' := hide hA'
      clear hA'
      have HM : Hid (M ++ L.take (k + n) = N ++ x) := by
        show _ = _
        rw [HNd.out, HX.out, List.append_assoc, take_piece]
      have hsum : (0 : Int) ≤ (u : Int) + (n : Int) := by omega
      by_cases hfull : u + n = 64
      · have HF := hide (st_full N x (by rw [HXl.out, ← HU.out]; exact hfull))
        have hq : ((u : Int) + (n : Int) == 64) = true := by simp; omega
        have Hfu := hide hfull
        clear hfull
        have H3 := hide (hsh_set_used H2.out HBB.out.1 ((u : Int) + (n : Int)))
        have HG3 := hide (grown_setCell HG2.out 72 (Value.int IntKind.i64 ((u : Int) + (n : Int))))
        have HT3 := hide (grown_tbl HG3.out hgt HT.out)
        as_aux_lemma =>
          go_wp2_with fail
          clear c72 f72 hs2
          generalize (w2.setCell ⟨g, 72, none⟩ (Value.int IntKind.i64 ((u : Int) + (n : Int)))) = w3 at *
          refine (mix_c g (st N) B' _ _ w3 (st_ok N) HBB.out.1 hB8n H3.out HT3.out).mono ?_
          rintro e w4 ⟨rfl, h4, hg4⟩
          have H4 := hide h4
          have HG4 := hide (grown_trans HG3.out hg4)
          clear h4 hg4
          have c72 := hsh_used H4.out HBB.out.1
          have f72 := blk_free (i := 72) H4.out
          go_wp2
          go_roundw
          case rel =>
            refine ⟨k + n, A', B', by omega, rfl, fun h => ?_, HBB.out.1, hB8n, ?_, ?_, ?_, ?_⟩
            · rw [HA'.out, if_neg (by omega), Option.map_some, Addr.add_mid, Nat.add_assoc]
            · rw [HM.out, HF.out.2.2, HF.out.2.1]; rfl
            · rw [HM.out, HF.out.2.2, HF.out.1]
              have e := hsh_set_used H4.out HBB.out.1 0
              have e2 : B' = rest N ++ x := by
                have := HBB.out.2
                rw [List.take_of_length_le (by rw [HBB.out.1, HXl.out, Hfu.out]; omega), HBr.out] at this
                exact this
              rw [← e2]
              exact e
            · exact grown_tbl (grown_setCell HG4.out 72 _) hgt HT.out
            · exact grown_setCell HG4.out 72 _
          case measure => show m - (k + n) < m - k; omega
      · have HF := hide (st_part N x (by rw [HXl.out, ← HU.out]; omega))
        have hq : ((u : Int) + (n : Int) == 64) = false := by simp; omega
        as_aux_lemma =>
          go_wp2
          go_roundw
          case rel =>
            refine ⟨k + n, A', B', by omega, rfl, fun h => ?_, HBB.out.1, hB8n, ?_, ?_, ?_, ?_⟩
            · rw [HA'.out, if_neg (by omega), Option.map_some, Addr.add_mid, Nat.add_assoc]
            · rw [HM.out, HF.out.2.2, HF.out.2.1, ← HU.out, HBB.out.2, HBr.out]
            · rw [HM.out, HF.out.2.2, HF.out.1, ← HU.out, HXl.out]
              exact hsh_set_used H2.out HBB.out.1 ((u : Int) + (n : Int))
            · exact grown_tbl (grown_setCell HG2.out 72 _) hgt HT.out
            · exact grown_setCell HG2.out 72 _
          case measure => show m - (k + n) < m - k; omega
    · have hkm : k = m := by omega
      subst hkm
      have Hz : Hid (k - k = 0) := by show _ = _; omega
      rw [Hz.out]
      go_wp2
      refine bodyPost_end (v := .tuple #[]) (by simp [results, Tryd.results99]) rfl ⟨rfl, ⟨B, HBl.out, hB8', ?_, ?_⟩, HG.out⟩
      · have := HBr.out
        have hLL : L.take k = L := List.take_of_length_le (by rw [HL.out]; exact Nat.le_refl _)
        rwa [hLL] at this
      · have := H1.out
        have hLL : L.take k = L := List.take_of_length_le (by rw [HL.out]; exact Nat.le_refl _)
        rw [hLL] at this
        rw [show ((M ++ L).length : Int) = (M.length : Int) + (k : Int) by rw [List.length_append, HL.out]; omega]
        exact this
end Go.Proofs.YtheambpddpfcfaaDoor.Sw
