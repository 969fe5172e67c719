/- SumKeys' walk. -/
import Derived.Test.YtofflmhfffphdaaDoorSmc
import Derived.Test.YtofflmhfffphdaaDoorBz
import Derived.Test.YtofflmhfffphdaaDoorBo
import Derived.Deep.RegionWith
namespace Go.Proofs.YtofflmhfffphdaaDoor.SumKeysW
set_option linter.unusedVariables false
set_option linter.unusedSimpArgs false
set_option maxRecDepth 100000
open Go.ChangeShapes Go.WideShapes Go.ChangeAt Go.RowKit
open Go.Proofs.YtofflmhfffphdaaDoor.Wu Go.Proofs.YtofflmhfffphdaaDoor.Sm Go.Proofs.YtofflmhfffphdaaDoor.Sk Go.Proofs.YtofflmhfffphdaaDoor.Sc Go.Proofs.YtofflmhfffphdaaDoor.Sxa Go.Proofs.YtofflmhfffphdaaDoor.Sh Go.Proofs.YtofflmhfffphdaaDoor.Sn Go.Proofs.YtofflmhfffphdaaDoor.Sw0 Go.Proofs.YtofflmhfffphdaaDoor.Sx Go.Proofs.YtofflmhfffphdaaDoor.Sw Go.Proofs.YtofflmhfffphdaaDoor.Sb Go.Proofs.YtofflmhfffphdaaDoor.Sf Go.Proofs.YtofflmhfffphdaaDoor.So Go.Proofs.YtofflmhfffphdaaDoor.Su Go.Proofs.YtofflmhfffphdaaDoor.St Go.Proofs.YtofflmhfffphdaaDoor.Sg Go.Proofs.YtofflmhfffphdaaDoor.Sv Go.Proofs.YtofflmhfffphdaaDoor.Sy Go.Proofs.YtofflmhfffphdaaDoor.Smc
def Post (w : World) (e : Ending) (w' : World) : Prop := e = .returned (.bool true) ∧ Below w.heap.size w w'
theorem keyL_long (L : List Nat) (h : 64 < L.length) : keyL (sha L) = keyL L := by
  unfold keyL
  rw [if_pos h, if_neg (by rw [sha_length]; omega), sha_length]
theorem keyL_zeros (L : List Nat) (k : Nat) (h : L.length + k ≤ 64) : keyL (L ++ List.replicate k 0) = keyL L := by
  unfold keyL
  rw [if_neg (by simp; omega), if_neg (by omega), List.append_assoc]
  congr 1
  unfold zeros
  rw [List.length_append, List.length_replicate, List.replicate_append_replicate]
  congr 1
  omega
theorem out_walk (a b : Option Addr) (m c m' c' : Nat) (n : Int) (w : World) (hT : Tbl w) (hF : Fst w) (hm : m ≤ 9223372036854775807) (hm' : m' ≤ 9223372036854775807) (hg : 200 < m ∨ 300 < m' ∨ n < 0 ∨ 64 < n) :
    Calls Tryd.prog 7 #[.slice a m c, .slice b m' c', .int .i64 n] w (Post w) := by
  have HC := hide (known_c w hT hF)
  clear hT hF
  have hcs : (decide ((200 : Int) < (m : Int)) = true ∧ decide (200 < m) = true) ∨ (decide ((200 : Int) < (m : Int)) = false ∧ decide (200 < m) = false ∧ decide ((300 : Int) < (m' : Int)) = true ∧ decide (300 < m') = true) ∨ (decide ((200 : Int) < (m : Int)) = false ∧ decide (200 < m) = false ∧ decide ((300 : Int) < (m' : Int)) = false ∧ decide (300 < m') = false ∧ decide (n < 0) = true ∧ True) ∨ (decide ((200 : Int) < (m : Int)) = false ∧ decide (200 < m) = false ∧ decide ((300 : Int) < (m' : Int)) = false ∧ decide (300 < m') = false ∧ decide (n < 0) = false ∧ decide (64 < n) = true) := by
    by_cases h1 : 200 < m
    · left; exact ⟨by simp; omega, by simp; omega⟩
    · by_cases h2 : 300 < m'
      · right; left; exact ⟨by simp; omega, by simp; omega, by simp; omega, by simp; omega⟩
      · by_cases h3 : n < 0
        · right; right; left; exact ⟨by simp; omega, by simp; omega, by simp; omega, by simp; omega, by simp; omega, trivial⟩
        · right; right; right; exact ⟨by simp; omega, by simp; omega, by simp; omega, by simp; omega, by simp; omega, by simp; omega⟩
  clear hg
  go_enter Tryd.func7, Tryd.ntmps7
  go_wp2_with fail
  refine HC.out.mono ?_
  rintro e w1 ⟨rfl, hb1⟩
  have HB1 := hide hb1
  clear hb1 HC
  rcases hcs with ⟨e1, e1'⟩ | ⟨e1, e1', e2, e2'⟩ | ⟨e1, e1', e2, e2', e3, _⟩ | ⟨e1, e1', e2, e2', e3, e4⟩
  all_goals
    go_wp2
    go_ret
    exact ⟨rfl, HB1.out⟩
set_option maxHeartbeats 3200000 in
theorem long_walk (a b : Option Addr) (m c m' c' n : Nat) (L X : List Nat) (w : World) (hs : SrcB w a m L) (hc : m ≤ c) (hx : SrcB w b m' X) (hc' : m' ≤ c') (hT : Tbl w) (hF : Fst w) (hm : m ≤ 200) (hm64 : 64 < m) (hm' : m' ≤ 300) (hn : n ≤ 64) :
    Calls Tryd.prog 7 #[.slice a m c, .slice b m' c', .int .i64 (n : Int)] w (Post w) := by
  have HC := hide (known_c w hT hF)
  have HT := hide hT
  have HF := hide hF
  have HS := hide hs
  have HX := hide hx
  have hLm := hs.1
  have hXm := hx.1
  clear hT hF hs hx
  have d1 : decide ((200 : Int) < (m : Int)) = false := by simp; omega
  have d1' : decide (200 < m) = false := by simp; omega
  have d2 : decide ((300 : Int) < (m' : Int)) = false := by simp; omega
  have d2' : decide (300 < m') = false := by simp; omega
  have d3 : decide ((n : Int) < 0) = false := by simp
  have d4 : decide ((64 : Int) < (n : Int)) = false := by simp; omega
  have d4' : decide (64 < n) = false := by simp; omega
  have d5 : decide ((64 : Int) < (m : Int)) = true := by simp; omega
  have d5' : decide (64 < m) = true := by simp; omega
  go_enter Tryd.func7, Tryd.ntmps7
  go_wp2_with fail
  refine HC.out.mono ?_
  rintro e w1 ⟨rfl, hb1⟩
  have hb2 := below_new w1 (.cells #[.slice a m c] 31)
  have H2 := hide (heap_last w1 (.cells #[.slice a m c] 31))
  have HB2 := hide (keepB hb2 (Nat.le_refl _) hb1)
  clear hb1 HC hb2
  go_wp2_with fail
  generalize (w1.alloc (.cells #[.slice a m c] 31)) = w2 at *
  refine (of_c _ _ [⟨a, m, c, L⟩] w2 (parts_one (HS.out.below HB2.out) hc H2.out) (tbl_keep HT.out HB2.out (Nat.le_refl _)) (fst_keep HF.out HB2.out (Nat.le_refl _)) (by rw [flat_one, hLm]; omega) (by simp)).mono ?_
  rintro e w3 ⟨rfl, hb3⟩
  rw [flat_one]
  obtain ⟨Z, hZ⟩ : ∃ Z, Z = sha L := ⟨_, rfl⟩
  have HZl : Hid (Z.length = 32) := hide (by rw [hZ]; exact sha_length _)
  have HZ8 : Hid (All8 Z) := hide (by rw [hZ]; exact all8_sha _)
  have HZk : Hid (keyL Z = keyL L) := hide (by rw [hZ]; exact keyL_long L (by omega))
  rw [← hZ]
  clear hZ
  have HB3 := hide (keepB hb3 (Nat.le_refl _) HB2.out)
  have Hz0 := hide (heap_last w3 (.cells (u8s (zeros 32)) 27))
  have HB4 := hide (HB3.out.alloc HB3.out.size (.cells (u8s (zeros 32)) 27))
  have hw3 := HB3.out.size
  clear hb3 H2 HB2
  go_wp2_with (first
    | (refine wpList_store_whole rfl 27 (.tmp 7) (.tmp 32) rfl w3.heap.size Z (zeros 32) 27 rfl rfl Hz0.out HZl.out (by rw [infoS, HZl.out]) ?_))
  rw [zlit8]
  intro w5 Hz1 Hg5
  refine of_hid ?_
  have HB5 := hide (belowG HB4.out Hg5.out hw3 HB4.out.size)
  have hSB : w3.heap.size < w5.heap.size := heap_lt Hz1.out
  clear Hg5 HB4 Hz0 HB3
  generalize w3.heap.size = SB at *
  have HM1 := hide (fun (u : World) (Y : Nat) (hu : Below w5.heap.size w5 u) (hY : u.heap[Y]? = some (.cells #[.slice b m' c'] 31 (0, 0))) => mac_c a m c L (some ⟨Y, 0, none⟩) 1 [⟨b, m', c', X⟩] u ((HS.out.below HB5.out).below hu) hc (parts_one ((HX.out.below HB5.out).below hu) hc' hY) (tbl_keep HT.out (keepB hu (Nat.le_refl _) HB5.out) (Nat.le_refl _)) (fst_keep HF.out (keepB hu (Nat.le_refl _) HB5.out) (Nat.le_refl _)) (by omega) (by rw [flat_one, hXm]; omega) (by simp))
  have HM2 := hide (fun (u : World) (Y : Nat) (hu : Below w5.heap.size w5 u) (hY : u.heap[Y]? = some (.cells #[.slice b m' c'] 31 (0, 0))) => mac_c (some ⟨SB, 0, none⟩) 32 32 Z (some ⟨Y, 0, none⟩) 1 [⟨b, m', c', X⟩] u (srcB_whole (below_blk hu (heap_lt Hz1.out) Hz1.out) HZ8.out HZl.out) (Nat.le_refl _) (parts_one ((HX.out.below HB5.out).below hu) hc' hY) (tbl_keep HT.out (keepB hu (Nat.le_refl _) HB5.out) (Nat.le_refl _)) (fst_keep HF.out (keepB hu (Nat.le_refl _) HB5.out) (Nat.le_refl _)) (by omega) (by rw [flat_one, hXm]; omega) (by simp))
  have hmac : macL Z (flat [⟨b, m', c', X⟩]) = macL L (flat [⟨b, m', c', X⟩]) := by unfold macL; rw [HZk.out]
  rw [hmac] at HM2
  obtain ⟨R, hR⟩ : ∃ R, R = macL L (flat [⟨b, m', c', X⟩]) := ⟨_, rfl⟩
  rw [← hR] at HM1 HM2
  have hRl : R.length = 32 := by rw [hR]; exact sha_length _
  clear hR hmac
  have hq := sum_same R hRl
  have hsl := fun v : World => sliceAllS v SB
  simp only [List.length_cons, List.length_nil, Nat.zero_add] at HM1 HM2
  go_wp2_with fail
  go_region_with (first
    | (go_at_call 20
       (with_reducible refine Calls.mono (HM1.out _ _ ?_ ?_) ?_)
       · first
         | exact ((Below.refl _ _).drew.alloc (Nat.le_refl _) _)
         | exact (((Below.refl _ _).drew.alloc (Nat.le_refl _) _).alloc (by simp <;> omega) _)
       · first
         | exact heap_last _ _
         | exact heap_2a _ _ _
         | exact heap_2b _ _ _
       rintro e u1 ⟨rfl, hu1⟩
       have HU1 : Hid (Below w5.heap.size w5 u1) := hide (by
         first
         | exact keepB hu1 (Nat.le_refl _) ((Below.refl _ _).drew.alloc (Nat.le_refl _) _)
         | exact keepB hu1 (Nat.le_refl _) (((Below.refl _ _).drew.alloc (Nat.le_refl _) _).alloc (by simp <;> omega) _))
       have HV1 : Hid (u1.heap[w5.heap.size]? = some (.cells #[.slice b m' c'] 31 (0, 0))) := hide (by
         first
         | exact below_blk hu1 (by simp <;> omega) (heap_last _ _)
         | exact below_blk hu1 (by simp <;> omega) (heap_2a _ _ _))
       first
       | have HV2 : Hid (u1.heap[w5.heap.size + 1]? = some (.cells #[.slice b m' c'] 31 (0, 0))) := hide (below_blk hu1 (by simp <;> omega) (heap_2b _ _ _))
       | skip
       clear hu1)
    | (go_at_call 20
       (with_reducible refine Calls.mono (HM2.out _ _ ?_ ?_) ?_)
       · first
         | exact HU1.out
         | exact HU1.out.alloc HU1.out.size _
       · first
         | exact HV1.out
         | exact HV2.out
         | exact heap_last _ _
       rintro e u2 ⟨rfl, hu2⟩
       have HU2 : Hid (Below w5.heap.size w5 u2) := hide (by
         first
         | exact keepB hu2 (Nat.le_refl _) HU1.out
         | exact keepB hu2 (Nat.le_refl _) (HU1.out.alloc HU1.out.size _))
       clear hu2))
  all_goals
    have HBe := hide (keepB HU2.out (Nat.le_refl _) HB5.out)
    go_wp2
    go_ret
    exact ⟨rfl, HBe.out⟩
theorem wpList_append_zeros {w : World} {ops : Array Oper} {rest : List Oper} {o : Oper} {a : Act} {Q : Exit → Act → World → Prop} (hgd : o.guard = none) (s x : Operand)
    (ho : o.op = .call { callee := .builtin .append, args := #[s, x], argTypes := #[31, 3] }) (g n cap : Nat) (L : List Nat) (m : Nat)
    (hs : a.eval s = .slice (some ⟨g, 0, none⟩) n cap) (hx : a.eval x = .int .i64 (m : Int)) (hd : Bp.Dst w g n cap L) (hbig : n + m ≤ 70368744177664)
    (h : ∀ g' cap' w', Hid (Bp.Dst w' g' (n + m) cap' (L ++ List.replicate m 0)) → Hid (w.grownBy w' (some g)) → (g' = g ∨ g' = w.heap.size) → Hid (wpList Tryd.prog ops Q rest (a.put o.dst (.slice (some ⟨g', 0, none⟩) (n + m) cap')) w')) : wpList Tryd.prog ops Q (o :: rest) a w := by
  obtain ⟨g', cap', w', hrun, h1, h2, h3⟩ := Bz.append_zeros w o.type g n cap L m hd hbig
  refine wpList_plain hgd fun K hK => ?_
  unfold Oper.wp
  simp [execOp, ho, resolve, invoke, builtin, hs, hx, hrun, Result.andThen]
  exact hK _ _ (h g' cap' w' h1 h2 (h3.imp (·.1) (·.1)))
set_option maxHeartbeats 3200000 in
theorem short_walk (a b : Option Addr) (m c m' c' n : Nat) (L X : List Nat) (w : World) (hs : SrcB w a m L) (hc : m ≤ c) (hx : SrcB w b m' X) (hc' : m' ≤ c') (hT : Tbl w) (hF : Fst w) (hm64 : m ≤ 64) (hm' : m' ≤ 300) (hn : n ≤ 64) (han : a = none → m = 0) :
    Calls Tryd.prog 7 #[.slice a m c, .slice b m' c', .int .i64 (n : Int)] w (Post w) := by
  have HC := hide (known_c w hT hF)
  have HT := hide hT
  have HF := hide hF
  have HS := hide hs
  have HX := hide hx
  have hLm := hs.1
  have hXm := hx.1
  clear hT hF hs hx
  have d1 : decide ((200 : Int) < (m : Int)) = false := by simp; omega
  have d1' : decide (200 < m) = false := by simp; omega
  have d2 : decide ((300 : Int) < (m' : Int)) = false := by simp; omega
  have d2' : decide (300 < m') = false := by simp; omega
  have d3 : decide ((n : Int) < 0) = false := by simp
  have d4 : decide ((64 : Int) < (n : Int)) = false := by simp; omega
  have d4' : decide (64 < n) = false := by simp; omega
  have d5 : decide ((64 : Int) < (m : Int)) = false := by simp; omega
  have d5' : decide (64 < m) = false := by simp; omega
  obtain ⟨k, hk⟩ : ∃ k : Nat, min (n : Int) (64 - (m : Int)) = (k : Int) := ⟨min n (64 - m), by omega⟩
  have hkm : m + k ≤ 64 := by omega
  have HKz := hide (keyL_zeros L k (by omega))
  go_enter Tryd.func7, Tryd.ntmps7
  go_wp2_with fail
  refine HC.out.mono ?_
  rintro e w1 ⟨rfl, hb1⟩
  have HB1 := hide hb1
  clear hb1 HC
  have hb2 := below_new w1 (.cells #[] 5)
  have HS2 : Hid (Ba.SrcB (w1.alloc (.cells #[] 5)) a m L) := hide ((HS.out.below HB1.out).below hb2)
  have HD2 : Hid (Bp.Dst (w1.alloc (.cells #[] 5)) w1.heap.size 0 0 []) := hide (Bp.dst_new w1 [] #[] 5 (0, 0) rfl (by intro x hx; cases hx) (by simp [maxLen]))
  have HB2 := hide (keepB hb2 (Nat.le_refl _) HB1.out)
  have h1z := HB1.out.size
  clear hb2 HB1
  go_wp2_with (refine Bp.wpList_append_dst rfl (.tmp 42) (.tmp 43) rfl w1.heap.size 0 0 [] a m c L rfl rfl HD2.out HS2.out (by omega) han ?_)
  intro g3 cap3 w3 HD3 HG3 hgg3 HK3
  refine of_hid ?_
  have HB3 := hide (belowG HB2.out HG3.out (by omega) HB2.out.size)
  have hg3 : w.heap.size ≤ g3 := by
    have := HB2.out.size
    rcases hgg3 with h | h <;> omega
  clear HG3 HK3 hgg3 HD2 HS2 HB2
  go_wp2_with (refine wpList_append_zeros rfl (.tmp 44) (.tmp 49) rfl g3 m cap3 L k ?_ ?_ ?_ (by omega) ?_)
  iterate 2 (focus omega)
  · have := HD3.out
    simpa using this
  all_goals
    intro g4 cap4 w4 HD4 HG4 hgg4
    refine of_hid ?_
    have HB4 := hide (belowG HB3.out HG4.out hg3 HB3.out.size)
    have hcap4 := HD4.out.fit
    clear HG4 hgg4 HD3 HB3
    have HM1 := hide (fun (u : World) (Y : Nat) (hu : Below w4.heap.size w4 u) (hY : u.heap[Y]? = some (.cells #[.slice b m' c'] 31 (0, 0))) => mac_c a m c L (some ⟨Y, 0, none⟩) 1 [⟨b, m', c', X⟩] u ((HS.out.below HB4.out).below hu) hc (parts_one ((HX.out.below HB4.out).below hu) hc' hY) (tbl_keep HT.out (keepB hu (Nat.le_refl _) HB4.out) (Nat.le_refl _)) (fst_keep HF.out (keepB hu (Nat.le_refl _) HB4.out) (Nat.le_refl _)) (by omega) (by rw [flat_one, hXm]; omega) (by simp))
    have HM2 := hide (fun (u : World) (Y : Nat) (hu : Below w4.heap.size w4 u) (hY : u.heap[Y]? = some (.cells #[.slice b m' c'] 31 (0, 0))) => mac_c (some ⟨g4, 0, none⟩) (m + k) cap4 (L ++ List.replicate k 0) (some ⟨Y, 0, none⟩) 1 [⟨b, m', c', X⟩] u (HD4.out.src.below hu) hcap4 (parts_one ((HX.out.below HB4.out).below hu) hc' hY) (tbl_keep HT.out (keepB hu (Nat.le_refl _) HB4.out) (Nat.le_refl _)) (fst_keep HF.out (keepB hu (Nat.le_refl _) HB4.out) (Nat.le_refl _)) (by omega) (by rw [flat_one, hXm]; omega) (by simp))
    have hmac : macL (L ++ List.replicate k 0) (flat [⟨b, m', c', X⟩]) = macL L (flat [⟨b, m', c', X⟩]) := by unfold macL; rw [HKz.out]
    rw [hmac] at HM2
    obtain ⟨R, hR⟩ : ∃ R, R = macL L (flat [⟨b, m', c', X⟩]) := ⟨_, rfl⟩
    rw [← hR] at HM1 HM2
    have hRl : R.length = 32 := by rw [hR]; exact sha_length _
    clear hR hmac
    have hq := sum_same R hRl
    simp only [List.length_cons, List.length_nil, Nat.zero_add] at HM1 HM2
    go_wp2_with fail
    (with_reducible refine Calls.mono (HM1.out _ _ (below_new _ _) (heap_last _ _)) ?_)
    rintro e u1 ⟨rfl, hu1⟩
    have HU1 := hide (keepB hu1 (Nat.le_refl _) (below_new w4 (.cells #[.slice b m' c'] 31)))
    clear hu1
    go_wp2_with fail
    (with_reducible refine Calls.mono (HM2.out _ _ (HU1.out.alloc HU1.out.size _) (heap_last _ _)) ?_)
    rintro e u2 ⟨rfl, hu2⟩
    have HB := hide (keepB (keepB hu2 (Nat.le_refl _) (HU1.out.alloc HU1.out.size _)) (Nat.le_refl _) HB4.out)
    clear hu2 HU1
    go_wp2
    go_ret
    exact ⟨rfl, HB.out⟩
end Go.Proofs.YtofflmhfffphdaaDoor.SumKeysW
