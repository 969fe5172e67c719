/- The reference's Bytes and Mac. -/
import Derived.Test.YtpaijhmbfljfmaaDoorSmc
import Derived.Test.YtpaijhmbfljfmaaDoorSct
import Derived.Test.YtpaijhmbfljfmaaDoorSrt
namespace Go.Proofs.YtpaijhmbfljfmaaDoor.Srm
set_option linter.unusedVariables false
set_option linter.unusedSimpArgs false
set_option maxRecDepth 100000
open Go.ChangeShapes Go.WideShapes Go.ChangeAt Go.RowKit
open Go.Proofs.YtpaijhmbfljfmaaDoor.Wu Go.Proofs.YtpaijhmbfljfmaaDoor.Sm Go.Proofs.YtpaijhmbfljfmaaDoor.Sk Go.Proofs.YtpaijhmbfljfmaaDoor.Sc Go.Proofs.YtpaijhmbfljfmaaDoor.Sxa Go.Proofs.YtpaijhmbfljfmaaDoor.Sh Go.Proofs.YtpaijhmbfljfmaaDoor.Sn Go.Proofs.YtpaijhmbfljfmaaDoor.Sw0 Go.Proofs.YtpaijhmbfljfmaaDoor.Sx Go.Proofs.YtpaijhmbfljfmaaDoor.Sw Go.Proofs.YtpaijhmbfljfmaaDoor.Sb Go.Proofs.YtpaijhmbfljfmaaDoor.Sf Go.Proofs.YtpaijhmbfljfmaaDoor.So Go.Proofs.YtpaijhmbfljfmaaDoor.Su Go.Proofs.YtpaijhmbfljfmaaDoor.St Go.Proofs.YtpaijhmbfljfmaaDoor.Sv Go.Proofs.YtpaijhmbfljfmaaDoor.Sy Go.Proofs.YtpaijhmbfljfmaaDoor.Sg Go.Proofs.YtpaijhmbfljfmaaDoor.Smc Go.Proofs.YtpaijhmbfljfmaaDoor.Srf Go.Proofs.YtpaijhmbfljfmaaDoor.Srt
theorem snoc_take (X : List Nat) (k : Nat) (hk : k < X.length) : X.take (k + 1) = X.take k ++ [X.getD k 0] := by
  rw [List.take_succ_eq_append_getElem hk]; simp [List.getD, hk]
theorem conv_one (a : Nat) (wr : World) : Sem.run Tryd.prog (convert 31 9 (.slice (some ⟨wr.heap.size, 0, none⟩) 1 1)) (wr.alloc (.cells #[.int .u8 (a : Int)] 5)) = .ok (.string (strN [a])) (wr.alloc (.cells #[.int .u8 (a : Int)] 5)) :=
  conv_row (L := [a]) rfl (fun i hi => by
    match i, hi with
    | 0, _ => exact blk_cell (heap_last wr _) rfl)
set_option maxHeartbeats 1600000 in
theorem refBytes_c (X : List Nat) (w : World) (hX : X.length = 32) (h8 : All8 X) :
    Calls Tryd.prog 64 #[.agg (u8s X)] w fun e w' => e = .returned (.string (strN X)) ∧ Below w.heap.size w w' := by
  have HX := hide hX
  have H0 := hide (heap_last w (.cells (u8s X) 27))
  have HB := hide (below_new w (.cells (u8s X) 27))
  clear hX
  go_enter Tryd.func64, Tryd.ntmps64
  go_wp2_with fail
  generalize (w.alloc (.cells (u8s X) 27)) = w1 at *
  go_loopw [4, 3] (fun i s wr => ∃ k : Nat, k ≤ 32 ∧ i = .int .i64 k ∧ s = .string (strN (X.take k)) ∧ wr.heap[w.heap.size]? = some (.cells (u8s X) 27 (0, 0)) ∧ Below w.heap.size w wr) (fun i _ _ => 32 - (intOf i).toNat)
  case atStart => exact ⟨0, by omega, rfl, rfl, H0.out, HB.out⟩
  case round =>
    clear H0 HB
    obtain ⟨k, hk, rfl, rfl, h1, hb⟩ := hrel
    have H1 := hide h1
    have HB := hide hb
    clear h1 hb
    by_cases hlk : k < 32
    · have hx8 := all8_getD h8 k
      have Hst := hide (snoc_take X k (by rw [HX.out]; exact hlk))
      have cx := row8 (i := k) H1.out (by rw [HX.out]; exact hlk)
      obtain ⟨x, hx⟩ : ∃ x, x = X.getD k 0 := ⟨_, rfl⟩
      rw [← hx] at cx hx8 Hst
      clear hx
      have hd : decide ((k : Int) < 32) = true := by simp; omega
      have k0 : (0 : Int) ≤ (k : Int) := by omega
      have k1 : (k : Int) < 32 := by omega
      obtain ⟨S, hS⟩ : ∃ S, S = X.take k := ⟨_, rfl⟩
      have hSl : S.length ≤ 64 := by rw [hS, List.length_take]; omega
      rw [← hS] at Hst ⊢
      clear hS
      have hcv := conv_one x wr
      have hadd := fun (u : World) => add_strN S [x] (by omega) (by simp) u
      go_wp2
      go_roundw
      case rel =>
        refine ⟨k + 1, by omega, by go_num, ?_, heap_old H1.out _, ?_⟩
        · rw [Hst.out]
        · exact HB.out.alloc HB.out.size _
      case measure => simp [intOf]; omega
    · have hk8 : k = 32 := by omega
      subst hk8
      have Hl : Hid (X.take 32 = X) := by show _ = _; rw [List.take_of_length_le (by rw [HX.out]; omega)]
      rw [Hl.out]
      go_wp2
      go_ret
      exact ⟨rfl, HB.out⟩
theorem strN_at {L : List Nat} (h8 : All8 L) (i : Nat) (h : i < (strN L).size) : ((strN L)[i]'h).toNat = L.getD i 0 := by
  have hl : i < L.length := by rw [strN_size] at h; exact h
  have h2 := all8_getD h8 i
  have e : (strN L)[i]'h = UInt8.ofNat (L.getD i 0) := by
    show (strN L).data[i]'_ = _
    simp [strN, strOfNums, List.getD, hl]
  rw [e, UInt8.toNat_ofNat']
  omega
theorem mask_snoc (c : Nat) (X : List Nat) (k : Nat) (hk : k < X.length) : mask c (X.take (k + 1)) = mask c (X.take k) ++ [X.getD k 0 ^^^ c] := by
  rw [snoc_take X k hk]; simp [mask]
def strSz : Value → Nat
  | .string b => b.size
  | _ => 0
/-- From the key's filling up on. -/
structure Rm (w : World) (wr : World) : Prop where
  row : wr.heap[w.heap.size]? = some (.cells (u8s (zeros 32)) 27 (0, 0))
  below : Below w.heap.size w wr
theorem Rm.up {w wr w' : World} (h : Rm w wr) (hb : Below wr.heap.size wr w') : Rm w w' := ⟨below_blk hb (heap_lt h.row) h.row, keepB hb (Nat.le_refl _) h.below⟩
set_option maxHeartbeats 6400000 in
theorem refMac_c (L M : List Nat) (w : World) (hL : All8 L) (hM : All8 M) (hl : L.length ≤ 1000) (hm : M.length ≤ 100000) :
    Calls Tryd.prog 20 #[.string (strN L), .string (strN M)] w fun e w' => e = .returned (.agg (u8s (macL L M))) ∧ Below w.heap.size w w' := by
  have H0 : Hid (Rm w (w.alloc (.cells (u8s (zeros 32)) 27))) := hide ⟨heap_last w (.cells (u8s (zeros 32)) 27), below_new w (.cells (u8s (zeros 32)) 27)⟩
  have hsz := strN_size L
  have HO := hide (fun u => refOf_c L u hL (by omega))
  have HBy := hide (fun u => refBytes_c (sha L) u (sha_length L) (all8_sha L))
  have HK8 := hide (keyL_all hL)
  have HKl := hide (keyL_length L)
  obtain ⟨K, hK⟩ : ∃ K, K = keyL L := ⟨_, rfl⟩
  have HK := hide hK
  have hc : ∃ Kx, K = Kx ++ zeros (64 - Kx.length) ∧ Kx.length ≤ 64 ∧ ((64 < L.length ∧ Kx = sha L) ∨ (¬ 64 < L.length ∧ Kx = L)) := by
    unfold keyL at hK
    by_cases h : 64 < L.length
    · rw [if_pos h] at hK
      exact ⟨sha L, by rw [sha_length]; exact hK, by rw [sha_length]; omega, .inl ⟨h, rfl⟩⟩
    · rw [if_neg h] at hK
      exact ⟨L, hK, by omega, .inr ⟨h, rfl⟩⟩
  obtain ⟨Kx, hKx, hxl, hc⟩ := hc
  rw [← hK] at HK8 HKl
  have HKx := hide hKx
  clear hK hKx
  rcases hc with ⟨h64, rfl⟩ | ⟨h64, hx⟩
  · go_enter Tryd.func20, Tryd.ntmps20
    go_wp2_with fail
    rw [zlit8]
    generalize (w.alloc (.cells (u8s (zeros 32)) 27)) = w0 at *
    refine (HO.out w0).mono ?_
    rintro e w1 ⟨rfl, hb1⟩
    have H1 := hide (H0.out.up hb1)
    clear hb1 H0
    go_wp2_with fail
    refine (HBy.out w1).mono ?_
    rintro e w2 ⟨rfl, hb2⟩
    have H2 := hide (H1.out.up hb2)
    clear hb2 H1
    generalize sha L = Kx at *
    go_wp2_with fail
    all_goals first | (exfalso; omega) | skip
    go_loop [0] (fun v => ∃ j : Nat, Kx.length + j ≤ 64 ∧ v = .string (strN (Kx ++ zeros j))) (fun v => 64 - strSz v)
    case atStart => exact ⟨0, by omega, by simp [zeros]⟩
    case round =>
      obtain ⟨j, hj, rfl⟩ := hrel
      have hz := strN_size (Kx ++ zeros j)
      rw [List.length_append, zeros_length] at hz
      by_cases hlt : Kx.length + j < 64
      · have hadd : ∀ u : World, Sem.run Tryd.prog (Op.stringOp .add (strN (Kx ++ zeros j)) ⟨#[0]⟩) u = .ok (.string (strN (Kx ++ zeros (j + 1)))) u := fun u => by
          have h := add_strN (Kx ++ zeros j) [0] (by rw [List.length_append, zeros_length]; omega) (by simp) u
          rw [List.append_assoc, show zeros j ++ [0] = zeros (j + 1) by unfold zeros; rw [List.replicate_succ']] at h
          exact h
        have hz2 := strN_size (Kx ++ zeros (j + 1))
        rw [List.length_append, zeros_length] at hz2
        go_wp2
        go_round
        case rel => exact ⟨j + 1, by omega, rfl⟩
        case measure => simp [strSz]; omega
      · have hj2 : j = 64 - Kx.length := by omega
        subst hj2
        rw [← HKx.out]
        clear hlt hz hj
        have hzK := strN_size K
        rw [HKl.out] at hzK
        go_wp2_with fail
        go_loopw [7, 5, 6] (fun i a b wr => ∃ k : Nat, k ≤ 64 ∧ i = .int .i64 k ∧ a = .string (strN (mask 54 (K.take k))) ∧ b = .string (strN (mask 92 (K.take k))) ∧ Rm w wr) (fun i _ _ _ => 64 - (intOf i).toNat)
        case atStart => exact ⟨0, by omega, rfl, rfl, rfl, H2.out⟩
        case round =>
          clear H2
          obtain ⟨k, hk, rfl, rfl, rfl, hR⟩ := hrel
          have HR := hide hR
          clear hR
          by_cases hlk : k < 64
          · have hkb : k < (strN K).size := by omega
            have hx := strN_at HK8.out k hkb
            have hx8 := all8_getD HK8.out k
            have Ha := hide (mask_snoc 54 K k (by rw [HKl.out]; exact hlk))
            have Hb := hide (mask_snoc 92 K k (by rw [HKl.out]; exact hlk))
            obtain ⟨x, hxe⟩ : ∃ x, x = K.getD k 0 := ⟨_, rfl⟩
            rw [← hxe] at hx hx8 Ha Hb
            clear hxe
            have x1 : bits .xor .u8 (x : Int) 54 = ((x ^^^ 54 : Nat) : Int) := xor_u8 x 54 hx8 (by omega)
            have x2 : bits .xor .u8 (x : Int) 92 = ((x ^^^ 92 : Nat) : Int) := xor_u8 x 92 hx8 (by omega)
            obtain ⟨S, hS⟩ : ∃ S, S = mask 54 (K.take k) := ⟨_, rfl⟩
            obtain ⟨T, hT⟩ : ∃ T, T = mask 92 (K.take k) := ⟨_, rfl⟩
            have hSl : S.length ≤ 64 := by rw [hS, mask_length, List.length_take]; omega
            have hTl : T.length ≤ 64 := by rw [hT, mask_length, List.length_take]; omega
            rw [← hS] at Ha ⊢
            rw [← hT] at Hb ⊢
            clear hS hT
            obtain ⟨y, hy⟩ : ∃ y, y = x ^^^ 54 := ⟨_, rfl⟩
            obtain ⟨z, hz⟩ : ∃ z, z = x ^^^ 92 := ⟨_, rfl⟩
            rw [← hy] at x1 Ha
            rw [← hz] at x2 Hb
            clear hy hz
            have hd : decide ((k : Int) < 64) = true := by simp; omega
            have hc1 := conv_one y wr
            have hc2 := conv_one z (wr.alloc (.cells #[.int .u8 (y : Int)] 5))
            have e9 : (wr.alloc (.cells #[.int .u8 (y : Int)] 5)).heap.size = wr.heap.size + 1 := by simp
            rw [e9] at hc2
            clear e9
            have hadd := fun (u : World) => add_strN S [y] (by omega) (by simp) u
            have hadd2 := fun (u : World) => add_strN T [z] (by omega) (by simp) u
            have HR2 := hide ((HR.out.up (below_new wr (.cells #[.int .u8 (y : Int)] 5))).up (below_new (wr.alloc (.cells #[.int .u8 (y : Int)] 5)) (.cells #[.int .u8 (z : Int)] 5)))
            go_wp2
            go_roundw
            case rel => exact ⟨k + 1, by omega, by go_num, by rw [Ha.out], by rw [Hb.out], HR2.out⟩
            case measure => simp [intOf]; omega
          · have hk8 : k = 64 := by omega
            subst hk8
            have HT64 : Hid (K.take 64 = K) := hide (List.take_of_length_le (by rw [HKl.out]; omega))
            rw [HT64.out]
            have hI8 : All8 (mask 54 K) := mask_all (by omega) HK8.out
            have hO8 : All8 (mask 92 K) := mask_all (by omega) HK8.out
            have hIl : (mask 54 K).length = 64 := by rw [mask_length, HKl.out]
            have hOl : (mask 92 K).length = 64 := by rw [mask_length, HKl.out]
            have a1 := fun (u : World) => add_strN (mask 54 K) M (by omega) (by omega) u
            have HO1 := hide (fun u => refOf_c (mask 54 K ++ M) u (all8_append hI8 hM) (by rw [List.length_append]; omega))
            have HX8 := hide (all8_sha (mask 54 K ++ M))
            have HBy1 := hide (fun u => refBytes_c (sha (mask 54 K ++ M)) u (sha_length _) (all8_sha _))
            have a2 := fun (u : World) => add_strN (mask 92 K) (sha (mask 54 K ++ M)) (by omega) (by rw [sha_length]; omega) u
            have HO2 := hide (fun u => refOf_c (mask 92 K ++ sha (mask 54 K ++ M)) u (all8_append hO8 (all8_sha _)) (by rw [List.length_append, sha_length]; omega))
            have HY : Hid (macL L M = sha (mask 92 K ++ sha (mask 54 K ++ M))) := hide (by unfold macL; rw [HK.out])
            have HYl : Hid ((sha (mask 92 K ++ sha (mask 54 K ++ M))).length = 32) := hide (sha_length _)
            generalize sha (mask 92 K ++ sha (mask 54 K ++ M)) = Y at *
            generalize mask 92 K ++ sha (mask 54 K ++ M) = O at *
            generalize sha (mask 54 K ++ M) = X at *
            generalize mask 54 K ++ M = I at *
            go_wp2_with fail
            refine (HO1.out wr).mono ?_
            rintro e w3 ⟨rfl, hb3⟩
            have H3 := hide (HR.out.up hb3)
            clear hb3
            go_wp2_with fail
            refine (HBy1.out w3).mono ?_
            rintro e w4 ⟨rfl, hb4⟩
            have H4 := hide (H3.out.up hb4)
            clear hb4
            go_wp2_with fail
            refine (HO2.out w4).mono ?_
            rintro e w5 ⟨rfl, hb5⟩
            have H5 := hide (H4.out.up hb5)
            clear hb5 a1 a2
            go_wp2_with (refine wpList_store_whole rfl 27 (.tmp 4) (.tmp 46) rfl w.heap.size Y (zeros 32) 27 rfl rfl H5.out.row HYl.out (by rw [infoS, HYl.out]) ?_)
            intro w6 H6 HG6
            have HB6 := hide (belowG H5.out.below HG6.out (Nat.le_refl _) H5.out.below.size)
            refine of_hid ?_
            go_wp2_with fail
            exact ret_whole Tryd.results20 w.heap.size Y 27 (0, 0) rfl H6.out _ Tryd.underlying27 rfl (by rw [infoS, HYl.out]) rfl ⟨by rw [HY.out], HB6.out⟩
  · rw [hx] at HKx hxl
    clear hx
    go_enter Tryd.func20, Tryd.ntmps20
    go_wp2_with fail
    rw [zlit8]
    generalize (w.alloc (.cells (u8s (zeros 32)) 27)) = w0 at *
    all_goals first | (exfalso; omega) | skip
    go_loop [0] (fun v => ∃ j : Nat, L.length + j ≤ 64 ∧ v = .string (strN (L ++ zeros j))) (fun v => 64 - strSz v)
    case atStart => exact ⟨0, by omega, by simp [zeros]⟩
    case round =>
      obtain ⟨j, hj, rfl⟩ := hrel
      have hz := strN_size (L ++ zeros j)
      rw [List.length_append, zeros_length] at hz
      by_cases hlt : L.length + j < 64
      · have hadd : ∀ u : World, Sem.run Tryd.prog (Op.stringOp .add (strN (L ++ zeros j)) ⟨#[0]⟩) u = .ok (.string (strN (L ++ zeros (j + 1)))) u := fun u => by
          have h := add_strN (L ++ zeros j) [0] (by rw [List.length_append, zeros_length]; omega) (by simp) u
          rw [List.append_assoc, show zeros j ++ [0] = zeros (j + 1) by unfold zeros; rw [List.replicate_succ']] at h
          exact h
        have hz2 := strN_size (L ++ zeros (j + 1))
        rw [List.length_append, zeros_length] at hz2
        go_wp2
        go_round
        case rel => exact ⟨j + 1, by omega, rfl⟩
        case measure => simp [strSz]; omega
      · have hj2 : j = 64 - L.length := by omega
        subst hj2
        rw [← HKx.out]
        clear hlt hz hj
        have hzK := strN_size K
        rw [HKl.out] at hzK
        go_wp2_with fail
        go_loopw [7, 5, 6] (fun i a b wr => ∃ k : Nat, k ≤ 64 ∧ i = .int .i64 k ∧ a = .string (strN (mask 54 (K.take k))) ∧ b = .string (strN (mask 92 (K.take k))) ∧ Rm w wr) (fun i _ _ _ => 64 - (intOf i).toNat)
        case atStart => exact ⟨0, by omega, rfl, rfl, rfl, H0.out⟩
        case round =>
          clear H0
          obtain ⟨k, hk, rfl, rfl, rfl, hR⟩ := hrel
          have HR := hide hR
          clear hR
          by_cases hlk : k < 64
          · have hkb : k < (strN K).size := by omega
            have hx := strN_at HK8.out k hkb
            have hx8 := all8_getD HK8.out k
            have Ha := hide (mask_snoc 54 K k (by rw [HKl.out]; exact hlk))
            have Hb := hide (mask_snoc 92 K k (by rw [HKl.out]; exact hlk))
            obtain ⟨x, hxe⟩ : ∃ x, x = K.getD k 0 := ⟨_, rfl⟩
            rw [← hxe] at hx hx8 Ha Hb
            clear hxe
            have x1 : bits .xor .u8 (x : Int) 54 = ((x ^^^ 54 : Nat) : Int) := xor_u8 x 54 hx8 (by omega)
            have x2 : bits .xor .u8 (x : Int) 92 = ((x ^^^ 92 : Nat) : Int) := xor_u8 x 92 hx8 (by omega)
            obtain ⟨S, hS⟩ : ∃ S, S = mask 54 (K.take k) := ⟨_, rfl⟩
            obtain ⟨T, hT⟩ : ∃ T, T = mask 92 (K.take k) := ⟨_, rfl⟩
            have hSl : S.length ≤ 64 := by rw [hS, mask_length, List.length_take]; omega
            have hTl : T.length ≤ 64 := by rw [hT, mask_length, List.length_take]; omega
            rw [← hS] at Ha ⊢
            rw [← hT] at Hb ⊢
            clear hS hT
            obtain ⟨y, hy⟩ : ∃ y, y = x ^^^ 54 := ⟨_, rfl⟩
            obtain ⟨z, hz⟩ : ∃ z, z = x ^^^ 92 := ⟨_, rfl⟩
            rw [← hy] at x1 Ha
            rw [← hz] at x2 Hb
            clear hy hz
            have hd : decide ((k : Int) < 64) = true := by simp; omega
            have hc1 := conv_one y wr
            have hc2 := conv_one z (wr.alloc (.cells #[.int .u8 (y : Int)] 5))
            have e9 : (wr.alloc (.cells #[.int .u8 (y : Int)] 5)).heap.size = wr.heap.size + 1 := by simp
            rw [e9] at hc2
            clear e9
            have hadd := fun (u : World) => add_strN S [y] (by omega) (by simp) u
            have hadd2 := fun (u : World) => add_strN T [z] (by omega) (by simp) u
            have HR2 := hide ((HR.out.up (below_new wr (.cells #[.int .u8 (y : Int)] 5))).up (below_new (wr.alloc (.cells #[.int .u8 (y : Int)] 5)) (.cells #[.int .u8 (z : Int)] 5)))
            go_wp2
            go_roundw
            case rel => exact ⟨k + 1, by omega, by go_num, by rw [Ha.out], by rw [Hb.out], HR2.out⟩
            case measure => simp [intOf]; omega
          · have hk8 : k = 64 := by omega
            subst hk8
            have HT64 : Hid (K.take 64 = K) := hide (List.take_of_length_le (by rw [HKl.out]; omega))
            rw [HT64.out]
            have hI8 : All8 (mask 54 K) := mask_all (by omega) HK8.out
            have hO8 : All8 (mask 92 K) := mask_all (by omega) HK8.out
            have hIl : (mask 54 K).length = 64 := by rw [mask_length, HKl.out]
            have hOl : (mask 92 K).length = 64 := by rw [mask_length, HKl.out]
            have a1 := fun (u : World) => add_strN (mask 54 K) M (by omega) (by omega) u
            have HO1 := hide (fun u => refOf_c (mask 54 K ++ M) u (all8_append hI8 hM) (by rw [List.length_append]; omega))
            have HX8 := hide (all8_sha (mask 54 K ++ M))
            have HBy1 := hide (fun u => refBytes_c (sha (mask 54 K ++ M)) u (sha_length _) (all8_sha _))
            have a2 := fun (u : World) => add_strN (mask 92 K) (sha (mask 54 K ++ M)) (by omega) (by rw [sha_length]; omega) u
            have HO2 := hide (fun u => refOf_c (mask 92 K ++ sha (mask 54 K ++ M)) u (all8_append hO8 (all8_sha _)) (by rw [List.length_append, sha_length]; omega))
            have HY : Hid (macL L M = sha (mask 92 K ++ sha (mask 54 K ++ M))) := hide (by unfold macL; rw [HK.out])
            have HYl : Hid ((sha (mask 92 K ++ sha (mask 54 K ++ M))).length = 32) := hide (sha_length _)
            generalize sha (mask 92 K ++ sha (mask 54 K ++ M)) = Y at *
            generalize mask 92 K ++ sha (mask 54 K ++ M) = O at *
            generalize sha (mask 54 K ++ M) = X at *
            generalize mask 54 K ++ M = I at *
            go_wp2_with fail
            refine (HO1.out wr).mono ?_
            rintro e w3 ⟨rfl, hb3⟩
            have H3 := hide (HR.out.up hb3)
            clear hb3
            go_wp2_with fail
            refine (HBy1.out w3).mono ?_
            rintro e w4 ⟨rfl, hb4⟩
            have H4 := hide (H3.out.up hb4)
            clear hb4
            go_wp2_with fail
            refine (HO2.out w4).mono ?_
            rintro e w5 ⟨rfl, hb5⟩
            have H5 := hide (H4.out.up hb5)
            clear hb5 a1 a2
            go_wp2_with (refine wpList_store_whole rfl 27 (.tmp 4) (.tmp 46) rfl w.heap.size Y (zeros 32) 27 rfl rfl H5.out.row HYl.out (by rw [infoS, HYl.out]) ?_)
            intro w6 H6 HG6
            have HB6 := hide (belowG H5.out.below HG6.out (Nat.le_refl _) H5.out.below.size)
            refine of_hid ?_
            go_wp2_with fail
            exact ret_whole Tryd.results20 w.heap.size Y 27 (0, 0) rfl H6.out _ Tryd.underlying27 rfl (by rw [infoS, HYl.out]) rfl ⟨by rw [HY.out], HB6.out⟩
end Go.Proofs.YtpaijhmbfljfmaaDoor.Srm
