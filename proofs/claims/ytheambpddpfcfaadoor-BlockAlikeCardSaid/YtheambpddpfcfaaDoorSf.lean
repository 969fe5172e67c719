/- finish: the message's end, and the sum. -/
import Derived.Test.YtheambpddpfcfaaDoorSw
import Derived.Test.YtheambpddpfcfaaDoorSb
import Derived.IntWalk
namespace Go.Proofs.YtheambpddpfcfaaDoor.Sf
set_option linter.unusedVariables false
set_option linter.unusedSimpArgs false
set_option maxRecDepth 100000
open Go.ChangeShapes Go.WideShapes Go.ChangeAt Go.RowKit
open Go.Proofs.YtheambpddpfcfaaDoor.Wu Go.Proofs.YtheambpddpfcfaaDoor.Sm Go.Proofs.YtheambpddpfcfaaDoor.Sk Go.Proofs.YtheambpddpfcfaaDoor.Sc Go.Proofs.YtheambpddpfcfaaDoor.Sxa Go.Proofs.YtheambpddpfcfaaDoor.Sh Go.Proofs.YtheambpddpfcfaaDoor.Sn Go.Proofs.YtheambpddpfcfaaDoor.Sw0 Go.Proofs.YtheambpddpfcfaaDoor.Sx Go.Proofs.YtheambpddpfcfaaDoor.Sw Go.Proofs.YtheambpddpfcfaaDoor.Sb

/-- The row in which the end is laid, behind k of the length's bytes. -/
def padL (n l k : Nat) : List Nat := 128 :: (zeros (n - 1 - k) ++ ((len8 l).drop (8 - k) ++ zeros (128 - n)))
theorem padL_length (n l k : Nat) (hn : 9 ≤ n) (hn' : n ≤ 128) (hk : k ≤ 8) : (padL n l k).length = 128 := by
  simp [padL, zeros, len8_length]; omega
theorem set_gap (z v : Nat) (T : List Nat) : (128 :: (zeros (z + 1) ++ T)).set (z + 1) v = 128 :: (zeros z ++ v :: T) := by
  rw [List.set_cons_succ]
  congr 1
  have e : zeros (z + 1) = zeros z ++ [0] := by unfold zeros; rw [List.replicate_succ']
  rw [e, List.append_assoc, List.set_append_right _ _ (by simp [zeros])]
  simp [zeros]
theorem len8_drop (l k : Nat) (hk : k < 8) : (len8 l).drop (8 - (k + 1)) = (l / 2 ^ (8 * k) % 256) :: (len8 l).drop (8 - k) := by
  match k, hk with
  | 0, _ => simp [len8]
  | 1, _ => simp [len8]
  | 2, _ => simp [len8]
  | 3, _ => simp [len8]
  | 4, _ => simp [len8]
  | 5, _ => simp [len8]
  | 6, _ => simp [len8]
  | 7, _ => simp [len8]
theorem padL_step (n l k : Nat) (hn : 9 ≤ n) (hk : k < 8) : (padL n l k).set (n - 1 - k) (l / 2 ^ (8 * k) % 256) = padL n l (k + 1) := by
  obtain ⟨z, hz⟩ : ∃ z, n - 1 - k = z + 1 := ⟨n - 2 - k, by omega⟩
  unfold padL
  rw [hz, set_gap, show n - 1 - (k + 1) = z by omega, len8_drop l k hk]
  rfl
theorem padL_end (n l : Nat) (hn : 9 ≤ n) (hn' : n ≤ 128) : (padL n l 8).take n = 128 :: (List.replicate (n - 9) 0 ++ len8 l) := by
  obtain ⟨z, rfl⟩ : ∃ z, n = z + 9 := ⟨n - 9, by omega⟩
  unfold padL
  rw [show z + 9 - 1 - 8 = z by omega, show z + 9 - 9 = z by omega, Nat.sub_self, List.drop_zero, show z + 9 = (z + 8) + 1 by omega, List.take_succ_cons, ← List.append_assoc, List.take_append_of_le_length (by simp [zeros, len8_length]), List.take_of_length_le (by simp [zeros, len8_length])]
  rfl
theorem zlit8 : (#[Value.int IntKind.u8 0, Value.int IntKind.u8 0, Value.int IntKind.u8 0, Value.int IntKind.u8 0, Value.int IntKind.u8 0, Value.int IntKind.u8 0, Value.int IntKind.u8 0, Value.int IntKind.u8 0, Value.int IntKind.u8 0, Value.int IntKind.u8 0, Value.int IntKind.u8 0, Value.int IntKind.u8 0, Value.int IntKind.u8 0, Value.int IntKind.u8 0, Value.int IntKind.u8 0, Value.int IntKind.u8 0, Value.int IntKind.u8 0, Value.int IntKind.u8 0, Value.int IntKind.u8 0, Value.int IntKind.u8 0, Value.int IntKind.u8 0, Value.int IntKind.u8 0, Value.int IntKind.u8 0, Value.int IntKind.u8 0, Value.int IntKind.u8 0, Value.int IntKind.u8 0, Value.int IntKind.u8 0, Value.int IntKind.u8 0, Value.int IntKind.u8 0, Value.int IntKind.u8 0, Value.int IntKind.u8 0, Value.int IntKind.u8 0] : Array Value) = u8s (zeros 32) := by rfl
theorem pad0 (n l : Nat) (h : 1 ≤ n) (hn : n ≤ 128) : Tryd.zeroCells206.setIfInBounds 0 (Value.int IntKind.u8 128) = u8s (padL n l 0) := by
  have e : padL n l 0 = 128 :: zeros 127 := by
    have e0 : (len8 l).drop (8 - 0) = [] := rfl
    unfold padL
    rw [e0, List.nil_append]
    simp only [zeros, List.replicate_append_replicate]
    rw [show n - 1 - 0 + (128 - n) = 127 by omega]
  have e2 : Tryd.zeroCells206.setIfInBounds 0 (Value.int IntKind.u8 128) = u8s (128 :: zeros 127) := by kernel_rfl
  rw [e, e2]
theorem alen128 : Tryd.prog.arrayLen 206 = 128 := by simp [Program.arrayLen, Tryd.underlying206]
theorem aelem128 : Tryd.prog.elem 206 = 5 := by simp [Program.elem, Tryd.underlying206]
theorem sliceH128 (u : World) (B n : Nat) (h0 : 0 < n) (hn : n ≤ 128) :
    Sem.run Tryd.prog (Instr.sliceAt 206 (.pointer (some ⟨B, 0, none⟩)) none (some (.int .i64 (n : Int))) none) u = .ok (.slice (some ⟨B, 0, none⟩) n 128) u := by
  rw [run_sliceAt_array_h u 206 ⟨B, 0, none⟩ (by rw [alen128, aelem128]; exact Tryd.underlying206) .i64 _ (by omega) (by rw [alen128]; omega), aelem128, size_u8, alen128]
  simp only [Result.andThen, slicedAt, Int.toNat_natCast, Nat.mul_one]
  rw [if_neg (by omega), Addr.add_mid]
  simp
theorem alenS : Tryd.prog.arrayLen 61 = 32 := by simp [Program.arrayLen, Tryd.underlying61]
theorem aelemS : Tryd.prog.elem 61 = 5 := by simp [Program.elem, Tryd.underlying61]
theorem sliceLS (u : World) (B n : Nat) (hn : n < 32) :
    Sem.run Tryd.prog (Instr.sliceAt 61 (.pointer (some ⟨B, 0, none⟩)) (some (.int .i64 (n : Int))) none none) u = .ok (.slice (some ⟨B, n, none⟩) (32 - n) (32 - n)) u := by
  rw [run_sliceAt_array_l u 61 ⟨B, 0, none⟩ (by rw [alenS, aelemS]; exact Tryd.underlying61) .i64 _ (by omega) (by rw [alenS]; omega), aelemS, size_u8, alenS]
  simp only [Result.andThen, slicedAt, Int.toNat_natCast, Nat.mul_one]
  rw [if_neg (by omega), Addr.add_mid]
  simp
theorem alen4 : Tryd.prog.arrayLen 207 = 4 := by simp [Program.arrayLen, Tryd.underlying207]
theorem aelem4 : Tryd.prog.elem 207 = 5 := by simp [Program.elem, Tryd.underlying207]
theorem slice4 (u : World) (B : Nat) :
    Sem.run Tryd.prog (Instr.sliceAt 207 (.pointer (some ⟨B, 0, none⟩)) none none none) u = .ok (.slice (some ⟨B, 0, none⟩) 4 4) u := by
  rw [run_sliceAt_array_all u 207 ⟨B, 0, none⟩ (by rw [alen4, aelem4]; exact Tryd.underlying207), aelem4, size_u8, alen4]
  simp only [Result.andThen, slicedAt, Nat.mul_one]
  rw [if_neg (by omega), Addr.add_mid]
theorem infoS : (Tryd.prog.info? 61).map (·.size) = some 32 := by kernel_rfl
theorem alen8 : Tryd.prog.underlying 172 = some (.array 8 50) := Tryd.underlying172
theorem index_row8 (X : List Nat) (k : Nat) (hX : X.length = 8) (hk : k < 8) (u : World) : Sem.run Tryd.prog (Instr.index 172 (.agg (u32s X)) (.int .i64 (k : Int))) u = .ok (.int .u32 ((X.getD k 0 : Nat) : Int)) u := by
  simp only [Instr.index, Sem.run_bind, asIntOf, Sem.run_pure, Result.andThen_ok, run_underlying alen8]
  rw [if_pos (by omega)]
  simp only [Sem.run_bind, size_u32, Result.andThen_ok, Int.toNat_natCast, Nat.mul_one]
  have e : (u32s X)[k]? = some (.int .u32 ((X.getD k 0 : Nat) : Int)) := u32s_at X k (by omega)
  simp [part, e, size_u32, go_sem]
theorem hsh_words {w : World} {g : Nat} {s : S8} {B : List Nat} {u l : Int} (h : Hsh w g s B u l) : w.rangeAt g 0 (u32s s.list).toList := by
  intro j v hv
  have hj : j < s.list.length := by have := (List.getElem?_eq_some_iff.1 hv).1; simpa [u32s_size] using this
  have e := hsh_state h j hj
  rw [Nat.zero_add, e]
  have := u32s_at s.list j hj
  simp only [Array.getElem?_toList] at hv
  rw [← this, hv]
/-- The sum's row behind k words. -/
def sumL (s : S8) (k : Nat) : List Nat := (bytes8 s).take (4 * k) ++ zeros (32 - 4 * k)
theorem sumL_length (s : S8) (k : Nat) (hk : k ≤ 8) : (sumL s k).length = 32 := by simp [sumL, bytes8_length, zeros]; omega
theorem sumL_step (s : S8) (k : Nat) (hk : k < 8) : (sumL s k).take (4 * k) ++ (four (s.list.getD k 0) ++ (sumL s k).drop (4 * k + 4)) = sumL s (k + 1) := by
  match k, hk with
  | 0, _ => rfl
  | 1, _ => rfl
  | 2, _ => rfl
  | 3, _ => rfl
  | 4, _ => rfl
  | 5, _ => rfl
  | 6, _ => rfl
  | 7, _ => rfl
theorem sumL_end (s : S8) : sumL s 8 = bytes8 s := rfl
theorem there8 {w : World} {B : Nat} {X : List Nat} {T : TypeId} (h : w.heap[B]? = some (.cells (u8s X) T (0, 0))) : w.there B 0 X.length := fun j hj =>
  ⟨by rw [Nat.zero_add, row8 h hj]; rfl, blk_free h⟩
theorem u8s_one (X : List Nat) : (u8s X).all (·.oneCell') = true := by
  unfold u8s
  exact all_oneCell_toArray (fun v hv => by simp only [List.mem_map] at hv; obtain ⟨z, _, rfl⟩ := hv; rfl)
theorem u8s_list (X : List Nat) : (u8s X).toList = b8 X := rfl
theorem u8s_b8 (X : List Nat) : u8s X = (b8 X).toArray := rfl
theorem tail_is (M : List Nat) (n : Nat) (hn : n = gap M.length + 9) (hb : M.length ≤ 140737488355328) : (padL n (8 * M.length) 8).take n = tail M.length := by
  have := gap_lt M.length
  rw [padL_end n _ (by omega) (by omega), tail, hn, Nat.add_sub_cancel, Nat.mod_eq_of_lt (by omega)]
theorem zlit4 : (#[Value.int IntKind.u8 0, Value.int IntKind.u8 0, Value.int IntKind.u8 0, Value.int IntKind.u8 0] : Array Value) = u8s (zeros 4) := by rfl
theorem set_all8 {w : World} {B : Nat} {T : TypeId} (X Y : List Nat) (h : w.heap[B]? = some (.cells (u8s Y) T (0, 0))) (hl : X.length = Y.length) : (w.setCells B 0 (u8s X).toList).heap[B]? = some (.cells (u8s X) T (0, 0)) := by
  have e := blk_setCells (u8s X).toList 0 w (u8s Y).toList (by simp [u8s_size]; omega) (by rw [Array.toArray_toList]; exact h)
  rw [e, List.take_zero, List.nil_append, List.drop_eq_nil_of_le (by simp [u8s_size]; omega), List.append_nil, Array.toArray_toList]
set_option maxHeartbeats 3200000 in
set_option maxRecDepth 100000 in
theorem finish_c (g : Nat) (M : List Nat) (w : World) (hT : Took w g M) (ht : Tbl w) (hM : All8 M) (hgt : g ≠ 2) (hbig : M.length ≤ 140737488355328) :
    Calls Tryd.prog 100 #[.pointer (some ⟨g, 0, none⟩)] w fun e w' => e = .returned (.agg (u8s (sha M))) ∧ w.grownBy w' (some g) := by
  have HTK := hide hT
  obtain ⟨B0, hB0, hB8, hBr, hH⟩ := hT
  have HT := hide ht
  have c72 := hsh_used hH hB0
  have c73 := hsh_len hH hB0
  have hlt := heap_lt hH
  obtain ⟨u, hud⟩ : ∃ u, u = M.length % 64 := ⟨_, rfl⟩
  have hu : u < 64 := by omega
  have HU := hide hud
  rw [← hud] at c72
  have h8 : (0 : Int) ≤ (M.length : Int) * 8 := by omega
  clear hBr hB0 hH ht hud hB8
  obtain ⟨n, hnd⟩ : ∃ n, n = gap M.length + 9 := ⟨_, rfl⟩
  have hn9 : 9 ≤ n := by omega
  have hn72 : n ≤ 72 := by have := gap_lt M.length; omega
  have HND := hide hnd
  have hE : (decide ((64 : Int) - (u : Int) < 9) = true ∧ (64 : Int) - (u : Int) + 64 = (n : Int)) ∨ (decide ((64 : Int) - (u : Int) < 9) = false ∧ (64 : Int) - (u : Int) = (n : Int)) := by
    have := HU.out
    unfold gap at hnd
    by_cases h9 : 64 - u < 9
    · exact Or.inl ⟨by simp; omega, by omega⟩
    · exact Or.inr ⟨by simp; omega, by omega⟩
  clear hnd
  have Hpad := hide (heap_2b w (.cells (u8s (zeros 32)) 61) (.cells (Tryd.zeroCells206.setIfInBounds 0 (Value.int IntKind.u8 128)) 206))
  rw [pad0 n (8 * M.length) (by omega) (by omega)] at Hpad
  have Hres := hide (heap_2a w (.cells (u8s (zeros 32)) 61) (.cells (u8s (padL n (8 * M.length) 0)) 206))
  have HB := hide (((Below.refl w.heap.size w).alloc (Nat.le_refl _) (.cells (u8s (zeros 32)) 61)).alloc (by simp) (.cells (u8s (padL n (8 * M.length) 0)) 206))
  rcases hE with ⟨hq, hE⟩ | ⟨hq, hE⟩
  all_goals
    have HE := hide hE
    clear hE
    go_enter Tryd.func100, Tryd.ntmps100
    go_wp2_with fail
    rw [HE.out, zlit8, pad0 n (8 * M.length) (by omega) (by omega)]
    clear HE hq
    generalize ((w.alloc (.cells (u8s (zeros 32)) 61)).alloc (.cells (u8s (padL n (8 * M.length) 0)) 206)) = w1 at *
    clear c72 c73
    go_loopw [26, 6] (fun i _ wr => ∃ k : Nat, k ≤ 8 ∧ i = .int .i64 k ∧ wr.heap[w.heap.size + 1]? = some (.cells (u8s (padL n (8 * M.length) k)) 206 (0, 0)) ∧ wr.heap[w.heap.size]? = some (.cells (u8s (zeros 32)) 61 (0, 0)) ∧ Below w.heap.size w wr) (fun i _ _ => 8 - (intOf i).toNat)
    case atStart => exact ⟨0, by omega, rfl, Hpad.out, Hres.out, HB.out⟩
    case round =>
      clear Hpad Hres HB
      obtain ⟨k, hk, rfl, h1, h2, hb⟩ := hrel
      have H1 := hide h1
      have H2 := hide h2
      have HB := hide hb
      clear h1 h2 hb
      by_cases hlk : k < 8
      · have hd : decide ((k : Int) < 8) = true := by simp; omega
        have i0 : (0 : Int) ≤ (n : Int) - 1 - (k : Int) := by omega
        have i1 : (n : Int) - 1 - (k : Int) < 128 := by omega
        have it : ((n : Int) - 1 - (k : Int)).toNat = n - 1 - k := by omega
        have hcx := row8 (i := n - 1 - k) H1.out (by rw [padL_length n _ k hn9 (by omega) hk]; omega)
        have hfx := blk_free (i := n - 1 - k) H1.out
        generalize (padL n (8 * M.length) k).getD (n - 1 - k) 0 = old at *
        as_aux_lemma =>
          go_wp2
          go_roundw
          case rel =>
            have e := blk_set (i := n - 1 - k) H1.out (Value.int IntKind.u8 (((8 * M.length) / 2 ^ (8 * k) % 256 : Nat) : Int))
            rw [u8s_set, padL_step n _ k hn9 hlk] at e
            have ev : (M.length : Int) * 8 / 2 ^ (8 * k) % 256 = (((8 * M.length) / 2 ^ (8 * k) % 256 : Nat) : Int) := by
              rw [Int.natCast_emod, Int.natCast_ediv, Int.natCast_mul, Int.natCast_pow, Int.mul_comm]; rfl
            refine ⟨k + 1, by omega, by go_num, ?_, blk_set_other H2.out (by omega) _, HB.out.setCell (by simp) _⟩
            rw [ev]
            exact e
          case measure => simp [intOf]; omega
      · have hk8 : k = 8 := by omega
        subst hk8
        have hsl := fun v : World => sliceH128 v (w.heap.size + 1) n (by omega) (by omega)
        have hd : decide (((8 : Nat) : Int) < 8) = false := by simp
        as_aux_lemma =>
          have HTail := hide (tail_is M n HND.out hbig)
          have Htk : Hid (Took wr g M) := by
            obtain ⟨B, h1, h2, h3, h4⟩ := HTK.out
            exact ⟨B, h1, h2, h3, below_blk HB.out hlt h4⟩
          have HTb := hide (tbl_keep HT.out HB.out (Nat.le_refl _))
          have Hsrc : Hid (SrcN wr g (some ⟨w.heap.size + 1, 0, none⟩) n (tail M.length)) := by
            refine ⟨by rw [tail_length, HND.out], all8_tail _, w.heap.size + 1, 0, fun _ => rfl, fun _ => by omega, fun i hi => ?_⟩
            have e := row8 (i := i) H1.out (by rw [padL_length n _ 8 hn9 (by omega) (by omega)]; omega)
            rw [Nat.zero_add, e, ← HTail.out]
            congr 3
            simp [List.getD, List.getElem?_take_of_lt hi]
          go_wp2_with fail
          clear hsl hd
          refine (write_c g M _ n 128 (tail M.length) wr Htk.out HTb.out Hsrc.out (by omega) hgt (by omega)).mono ?_
          rintro e w2 ⟨rfl, hTk, hG⟩
          obtain ⟨B, hBl, hB8, hBr, hHs⟩ := hTk
          have H3 : Hid (Hsh w2 g (st (padded M)) B (((M ++ tail M.length).length % 64 : Nat) : Int) ((M ++ tail M.length).length : Int)) := hHs
          have HG2 := hide (grown_trans (grown_below (World.grownBy.refl w (some g)) HB.out (Nat.le_refl _)) hG)
          have HR2 : Hid (w2.heap[w.heap.size]? = some (.cells (u8s (zeros 32)) 61 (0, 0))) := (hG.block _ (heap_lt H2.out) (fun e => by injection e; omega)).trans H2.out
          clear hBr hHs hG Htk HTb Hsrc HTail H1 H2 HB HTK HT
          obtain ⟨s, hs⟩ : ∃ s, s = st (padded M) := ⟨_, rfl⟩
          have HSS := hide hs
          rw [← hs] at H3
          clear hs
          have hsok : Hid s.ok := by rw [HSS.out]; exact st_ok _
          have HSB := hide (heap_last w2 (.cells (u8s (zeros 32)) 61))
          have HGA := hide (grown_below HG2.out (below_new w2 (.cells (u8s (zeros 32)) 61)) HG2.out.size)
          have HRA := hide (heap_old HR2.out (.cells (u8s (zeros 32)) 61))
          have hlS : w.heap.size < w2.heap.size := heap_lt HR2.out
          have Hrw := hide (World.rangeAt_alloc (hsh_words H3.out) (.cells (u8s (zeros 32)) 61))
          clear HR2 HG2 H3
          go_wp2_with (refine wpList_load_mid rfl 172 (.tmp 46) rfl g 0 rfl _ _ Hrw.out Tryd.underlying172 rfl (by rw [info8]; rfl) ?_)
          rw [Array.toArray_toList, zlit8]
          clear Hrw
          generalize hSB : w2.heap.size = SB at *
          clear hSB
          generalize (w2.alloc (.cells (u8s (zeros 32)) 61)) = w3 at *
          go_loopw [48, 8, 9, 10] (fun i _ _ _ wr => ∃ k : Nat, k ≤ 8 ∧ i = .int .i64 k ∧ wr.heap[SB]? = some (.cells (u8s (sumL s k)) 61 (0, 0)) ∧ wr.heap[w.heap.size]? = some (.cells (u8s (zeros 32)) 61 (0, 0)) ∧ w.grownBy wr (some g)) (fun i _ _ _ _ => 8 - (intOf i).toNat)
          case atStart => exact ⟨0, by omega, rfl, HSB.out, HRA.out, HGA.out⟩
          case round =>
            clear HSB HRA HGA
            obtain ⟨k, hk, rfl, h1, h2, h3⟩ := hrel
            have H1 := hide h1
            have H2 := hide h2
            have HG := hide h3
            clear h1 h2 h3
            by_cases hlk : k < 8
            · have hix := index_row8 s.list k rfl hlk
              have hb32 := all32_getD hsok.out k
              have Hst := hide (sumL_step s k hlk)
              obtain ⟨x, hx⟩ : ∃ x, x = s.list.getD k 0 := ⟨_, rfl⟩
              rw [← hx] at hix hb32 Hst
              clear hx
              have hd : decide ((k : Int) < 8) = true := by simp; omega
              have hk0 : (0 : Int) ≤ (k : Int) := by omega
              have hk1 : (k : Int) < 8 := by omega
              go_wp2_with fail
              refine (bytesOf_c x _ hb32).mono ?_
              rintro e w4 ⟨rfl, hb4⟩
              clear hix
              have hz4 := hb4.size
              have HSZ := hide (heap_lt H1.out)
              have H1a := hide (below_blk hb4 (heap_lt H1.out) H1.out)
              have H2a := hide (below_blk hb4 (heap_lt H2.out) H2.out)
              have HGa := hide (grown_below HG.out hb4 HG.out.size)
              clear hb4 H1 H2 HG
              have Hz := hide (heap_last w4 (.cells (u8s (zeros 4)) 207))
              have hlSB := heap_lt H1a.out
              go_wp2_with (refine wpList_store_mid rfl 207 (.tmp 10) (.tmp 53) rfl w4.heap.size 0 _ rfl rfl ?_ ?_ ?_ ?_)
              · rw [zlit4]
                exact there8 Hz.out
              · rw [info4]; rfl
              · exact u8s_one (four x)
              rw [zlit4]
              have Hb5 : Hid (Below w4.heap.size w4 ((w4.alloc (.cells (u8s (zeros 4)) 207)).setCells w4.heap.size 0 (u8s (four x)).toList)) := below_setCells _ _ _ _ (below_new _ _) (Nat.le_refl _)
              have H4 := hide (set_all8 (four x) (zeros 4) Hz.out rfl)
              have H1b := hide (below_blk Hb5.out hlSB H1a.out)
              have H2b := hide (below_blk Hb5.out (heap_lt H2a.out) H2a.out)
              have HGb := hide (grown_below HGa.out Hb5.out HGa.out.size)
              clear H1a H2a HGa Hz Hb5
              have hsl := fun v : World => sliceLS v SB (4 * k) (by omega)
              have hs4 := fun v : World => slice4 v w4.heap.size
              rw [show ((4 * k : Nat) : Int) = 4 * (k : Int) by omega] at hsl
              generalize ((w4.alloc (.cells (u8s (zeros 4)) 207)).setCells w4.heap.size 0 (u8s (four x)).toList) = w5 at *
              generalize w4.heap.size = FB at *
              as_aux_lemma =>
                go_wp2_with fail
                have hwr : IntKind.i64.wrap (4 * (k : Int)) = 4 * (k : Int) := IntWalk.i64_in _ (by omega)
                go_still_tail 4, (by kernel_rfl)
                refine wpList_copy_own rfl (.tmp 56) (.tmp 57) 22 22 rfl 5 Tryd.underlying22 info_u8s SB (4 * k) (32 - 4 * k) (32 - 4 * k) ⟨FB, 0, none⟩ 4 4 rfl rfl (u8s (sumL s k)) 61 H1b.out (b8 (four x)) ?_ ?_ ?_ (b8_one _) ?_
                · rw [b8_length]; show 4 = min 4 (32 - 4 * k); omega
                · intro j v hv
                  obtain ⟨hj, rfl⟩ := b8_at hv
                  rw [Addr.add_mid, Nat.zero_add]
                  exact row8 (w := w5.drew) H4.out hj
                · rw [b8_length, u8s_size, sumL_length s k hk]; show 4 * k + 4 ≤ 32; omega
                have e6 := setRow_heap w5.drew SB _ ((u8s (sumL s k)).toList.take (4 * k) ++ (b8 (four x) ++ (u8s (sumL s k)).toList.drop (4 * k + (b8 (four x)).length))).toArray _ _ H1b.out
                rw [show ((u8s (sumL s k)).toList.take (4 * k) ++ (b8 (four x) ++ (u8s (sumL s k)).toList.drop (4 * k + (b8 (four x)).length))).toArray = u8s (sumL s (k + 1)) by
                  rw [← Hst.out, u8s_list, b8_length, u8s_b8]
                  congr 1
                  simp [b8, four]] at e6 ⊢
                have H6 := hide e6
                have H2c : Hid ((w5.drew.setRow SB (u8s (sumL s (k + 1)))).heap[w.heap.size]? = some (.cells (u8s (zeros 32)) 61 (0, 0))) := (setRow_other w5.drew SB _ _ (by omega)).trans H2b.out
                have HGc : Hid (w.grownBy (w5.drew.setRow SB (u8s (sumL s (k + 1)))) (some g)) :=
                  ⟨HGb.out.os, HGb.out.tape, HGb.out.output, by have := HGb.out.size; simpa [World.setRow] using this, fun i hi hne => (setRow_other w5.drew SB i _ (by omega)).trans (HGb.out.block i hi hne)⟩
                clear e6 hsl hs4 H1b H2b HGb H4
                show wpList _ _ _ _ (Act.put _ _ (goInt 4)) (w5.drew.setRow SB (u8s (sumL s (k + 1))))
                generalize (w5.drew.setRow SB (u8s (sumL s (k + 1)))) = w6 at *
                go_wp2
                go_roundw
                case rel => exact ⟨k + 1, by omega, by go_num, H6.out, H2c.out, HGc.out⟩
                case measure => simp [intOf]; omega
            · have hk8 : k = 8 := by omega
              subst hk8
              have h1 := H1.out
              rw [sumL_end] at h1
              obtain ⟨X, hX⟩ : ∃ X, X = bytes8 s := ⟨_, rfl⟩
              have hXl : X.length = 32 := by rw [hX]; rfl
              rw [← hX] at h1
              have HX : Hid (sha M = X) := by show _ = _; rw [hX, HSS.out]; rfl
              clear hX
              have hr := hide (range8_all h1)
              have ht := hide (there8 H2.out)
              have Hsz : Hid ((u8s X).toList.length = 32) := by show _ = _; simp [u8s_size, hXl]
              have Hs2 : Hid ((u8s X).toList.toArray.size = 32) := by show _ = _; rw [Array.toArray_toList, u8s_size, hXl]
              have HXl := hide hXl
              clear h1 H1 hXl
              as_aux_lemma =>
                go_wp2_with (first
                  | (refine wpList_load_mid rfl 61 (.tmp 7) rfl SB 0 rfl _ _ hr.out Tryd.underlying61 rfl (by rw [infoS, Hsz.out]) ?_)
                  | (refine wpList_store_mid rfl 61 (.tmp 2) (.tmp 60) rfl w.heap.size 0 _ rfl rfl ?_ ?_ ?_ ?_))
                · rw [Hs2.out]; exact ht.out
                · rw [infoS, Hs2.out]
                · rw [Array.toArray_toList]; exact u8s_one _
                rw [Array.toArray_toList]
                have e := set_all8 X (zeros 32) H2.out HXl.out
                have HGd : w.grownBy (wr.setCells w.heap.size 0 (u8s X).toList) (some g) := by
                  have hb : Below w.heap.size wr (wr.setCells w.heap.size 0 (u8s X).toList) := below_setCells _ _ _ _ (Below.refl _ _) (Nat.le_refl _)
                  exact grown_below HG.out hb (Nat.le_refl _)
                refine bodyPost_ret (v := .agg (u8s (sha M))) ?_ rfl ⟨rfl, HGd⟩
                rw [results_one_cell Tryd.results100, HX.out]
                have h4 := run_loadVar_mid (P := Tryd.prog) (wr.setCells w.heap.size 0 (u8s X).toList) w.heap.size 0 61 (u8s X).toList _ (range8_all e) Tryd.underlying61 rfl (by rw [infoS, Hsz.out])
                rw [Array.toArray_toList] at h4
                simpa [asAddr, Act.put] using h4
end Go.Proofs.YtheambpddpfcfaaDoor.Sf
