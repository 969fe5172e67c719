/- DeltaRaw's walk. -/
import Derived.Test.YtkinpbhbgeiflaaDoorQk
namespace Go.Proofs.YtkinpbhbgeiflaaDoor.DeltaRawW
set_option linter.unusedVariables false
set_option linter.unusedSimpArgs false
set_option maxRecDepth 100000
open Go.ChangeShapes Go.WideShapes Go.ChangeAt Go.RowKit
open Go.Proofs.YtkinpbhbgeiflaaDoor.Wu Go.Proofs.YtkinpbhbgeiflaaDoor.Sm Go.Proofs.YtkinpbhbgeiflaaDoor.Sh Go.Proofs.YtkinpbhbgeiflaaDoor.Ba Go.Proofs.YtkinpbhbgeiflaaDoor.Bp Go.Proofs.YtkinpbhbgeiflaaDoor.Bq Go.Proofs.YtkinpbhbgeiflaaDoor.Bs Go.Proofs.YtkinpbhbgeiflaaDoor.Ka Go.Proofs.YtkinpbhbgeiflaaDoor.Kb Go.Proofs.YtkinpbhbgeiflaaDoor.Kc Go.Proofs.YtkinpbhbgeiflaaDoor.Kd Go.Proofs.YtkinpbhbgeiflaaDoor.Ke Go.Proofs.YtkinpbhbgeiflaaDoor.Kf Go.Proofs.YtkinpbhbgeiflaaDoor.Rk Go.Proofs.YtkinpbhbgeiflaaDoor.Rg Go.Proofs.YtkinpbhbgeiflaaDoor.Rx Go.Proofs.YtkinpbhbgeiflaaDoor.Rw Go.Proofs.YtkinpbhbgeiflaaDoor.Kh Go.Proofs.YtkinpbhbgeiflaaDoor.Ki Go.Proofs.YtkinpbhbgeiflaaDoor.Kj Go.Proofs.YtkinpbhbgeiflaaDoor.Kx Go.Proofs.YtkinpbhbgeiflaaDoor.Da Go.Proofs.YtkinpbhbgeiflaaDoor.Db Go.Proofs.YtkinpbhbgeiflaaDoor.Dk Go.Proofs.YtkinpbhbgeiflaaDoor.Dl Go.Proofs.YtkinpbhbgeiflaaDoor.Dm Go.Proofs.YtkinpbhbgeiflaaDoor.Do Go.Proofs.YtkinpbhbgeiflaaDoor.Dp Go.Proofs.YtkinpbhbgeiflaaDoor.Dr
open Go.Proofs.YtkinpbhbgeiflaaDoor.Sn (Fst fst_keep)
open Go.Proofs.YtkinpbhbgeiflaaDoor.Sxa (Tbl tbl_keep)
open Go.Proofs.YtkinpbhbgeiflaaDoor.Su (cutL Cnt)
attribute [local go_sem] kUpon_value kUpon_skip kUpon_enter
open Go.Proofs.YtkinpbhbgeiflaaDoor.Ds
set_option maxHeartbeats 1600000 in
theorem out_walk (sz cut len : Int) (av a' : Option Addr) (n cv m' c' : Nat) (w : World) (hT : Tbl w) (hF : Fst w) (hg : 60 < n ∨ 80 < m') :
    Calls Tryd.prog 5 #[sigV sz cut len (.slice av n cv), .slice a' m' c'] w fun e w' => e = .returned (.bool true) ∧ Below w.heap.size w w' := by
  unfold sigV
  have hn := below_new w (.cells #[.int .i64 sz, .int .i64 cut, .int .i64 len, .slice av n cv] 50)
  have HH := hide (tells_c (w.alloc (.cells #[.int .i64 sz, .int .i64 cut, .int .i64 len, .slice av n cv] 50)) (tbl_keep hT hn (Nat.le_refl _)) (fst_keep hF hn (Nat.le_refl _)))
  have HN := hide hn
  have HS := hide (heap_last w (.cells #[.int .i64 sz, .int .i64 cut, .int .i64 len, .slice av n cv] 50))
  clear hT hF hn
  have hc : 60 < n ∨ (¬ 60 < n ∧ 80 < m') := by omega
  clear hg
  rcases hc with h1 | ⟨h1, h2⟩
  · have d1 : decide ((60 : Int) < (n : Int)) = true := by simp; omega
    have d1' : decide (60 < n) = true := by simp; omega
    clear h1
    go_enter Tryd.func5, Tryd.ntmps5
    go_wp2_with fail
    generalize (w.alloc (.cells #[.int .i64 sz, .int .i64 cut, .int .i64 len, .slice av n cv] 50)) = w0 at *
    refine HH.out.mono ?_
    rintro e w1 ⟨rfl, hb1⟩
    have HB1 := hide (keepB hb1 (Nat.le_refl _) HN.out)
    obtain ⟨r0, r1, r2, r3⟩ := Sig4.cells (T := 50) (below_blk hb1 (heap_lt HS.out) HS.out)
    clear hb1
    go_wp2
    go_ret
    exact ⟨rfl, HB1.out⟩
  · have d1 : decide ((60 : Int) < (n : Int)) = false := by simp; omega
    have d1' : decide (60 < n) = false := by simp; omega
    have d2 : decide ((80 : Int) < (m' : Int)) = true := by simp; omega
    have d2' : decide (80 < m') = true := by simp; omega
    clear h1 h2
    go_enter Tryd.func5, Tryd.ntmps5
    go_wp2_with fail
    generalize (w.alloc (.cells #[.int .i64 sz, .int .i64 cut, .int .i64 len, .slice av n cv] 50)) = w0 at *
    refine HH.out.mono ?_
    rintro e w1 ⟨rfl, hb1⟩
    have HB1 := hide (keepB hb1 (Nat.le_refl _) HN.out)
    obtain ⟨r0, r1, r2, r3⟩ := Sig4.cells (T := 50) (below_blk hb1 (heap_lt HS.out) HS.out)
    clear hb1
    go_wp2
    go_ret
    exact ⟨rfl, HB1.out⟩
set_option maxHeartbeats 6400000 in
theorem in_walk (sz cut len : Int) (av a' : Option Addr) (n cv m' c' : Nat) (bs : List Blk) (P : List Nat) (w : World) (hb : IsBks .u32 w (.slice av n cv) bs) (hml : bs.length = n) (hl2 : len ≤ 9223372036854775807) (hs' : SrcB w a' m' P) (hc' : m' ≤ c') (hcm' : c' ≤ 9223372036854775807) (hn' : a' = none → m' = 0) (hT : Tbl w) (hF : Fst w) (hm : n ≤ 60) (hm' : m' ≤ 80) :
    Calls Tryd.prog 5 #[sigV sz cut len (.slice av n cv), .slice a' m' c'] w fun e w' => e = .returned (.bool true) ∧ Below w.heap.size w w' := by
  have hn6 : n ≤ 1000000 := by omega
  have hPl := hs'.1
  have hP8 := hs'.2.1
  have hnw := below_new w (.cells #[.int .i64 sz, .int .i64 cut, .int .i64 len, .slice av n cv] 50)
  have HH := hide (tells_c (w.alloc (.cells #[.int .i64 sz, .int .i64 cut, .int .i64 len, .slice av n cv] 50)) (tbl_keep hT hnw (Nat.le_refl _)) (fst_keep hF hnw (Nat.le_refl _)))
  have HN := hide hnw
  have HPr := hide (heap_last w (.cells #[.int .i64 sz, .int .i64 cut, .int .i64 len, .slice av n cv] 50))
  have HP := hide (fun (u : World) (hu : Below w.heap.size w u) => hs'.below hu)
  have HTF := hide (fun (u : World) (hu : Below w.heap.size w u) => (⟨tbl_keep hT hu (Nat.le_refl _), fst_keep hF hu (Nat.le_refl _)⟩ : Tbl u ∧ Fst u))
  have HIb := hide (fun (u : World) (hu : Below w.heap.size w u) => hb.below hu)
  obtain ⟨fin, hfin⟩ : ∃ fin, fin = if checkE sz cut len bs = 0 then mkA (fdOf sz.toNat cut.toNat len.toNat bs) sz.toNat P else [] := ⟨_, rfl⟩
  obtain ⟨z, hz2⟩ : ∃ z, z = checkE sz cut len bs := ⟨_, rfl⟩
  have HMa := hide (fun (u : World) (av : Option Addr) (cv : Nat) (hu : Below w.heap.size w u) (hb : IsBks .u32 u (.slice av n cv) bs) => make_any u sz cut len av n cv bs a' m' c' P hb hml hn6 hl2 (HP.out u hu) hc' hcm' hn' (by omega) (HTF.out u hu).1 (HTF.out u hu).2 fin z hz2 hfin)
  have HRm := hide (fun (u : World) (av : Option Addr) (cv : Nat) (hb : IsBks .i64 u (.slice av n cv) bs) => refmake_any u sz cut len av n cv bs P hb hml hl2 hP8 (by omega) fin z hz2 hfin)
  have HLen : Hid (fin.length ≤ 8192) := hide (by
    rw [hfin]
    by_cases h : checkE sz cut len bs = 0
    · rw [if_pos h]
      have := mkT_length (fdOf sz.toNat cut.toNat len.toNat bs) sz.toNat P.length P []
      have h0 : ([] : List Tok).length = 0 := rfl
      unfold mkA
      omega
    · rw [if_neg h]
      exact Nat.zero_le _)
  obtain ⟨X, hX⟩ : ∃ X, X = strN P := ⟨_, rfl⟩
  have HX := hide hX
  rw [← hX] at HRm
  have d1 : decide ((60 : Int) < (n : Int)) = false := by simp; omega
  have d1' : decide (60 < n) = false := by simp; omega
  have d2 : decide ((80 : Int) < (m' : Int)) = false := by simp; omega
  have d2' : decide (80 < m') = false := by simp; omega
  clear hs' hT hF hnw hfin hz2 hX hP8 hb
  unfold sigV
  go_enter Tryd.func5, Tryd.ntmps5
  go_wp2_with fail
  generalize (w.alloc (.cells #[.int .i64 sz, .int .i64 cut, .int .i64 len, .slice av n cv] 50)) = w0 at *
  refine HH.out.mono ?_
  rintro e w4 ⟨rfl, hb1⟩
  have HB4 := hide (keepB hb1 (Nat.le_refl _) HN.out)
  have HS4 := hide (below_blk hb1 (heap_lt HPr.out) HPr.out)
  have HI4 := hide (fun (u : World) (hu : Below w4.heap.size w4 u) => HIb.out u (keepB hu (Nat.le_refl _) HB4.out))
  clear hb1 HH HN HPr
  obtain ⟨S1, hS1⟩ : ∃ S1, S1 = w.heap.size := ⟨_, rfl⟩
  have HS1 := hide hS1
  rw [← hS1] at HS4
  obtain ⟨r0, r1, r2, r3⟩ := Sig4.cells (T := 50) HS4.out
  rw [hS1] at r0 r1 r2 r3
  clear hS1
  have HMk := hide (HMa.out w4 av cv HB4.out (HI4.out w4 (Below.refl _ _)))
  unfold sigV at HMk
  go_wp2_with fail
  (with_reducible refine Calls.mono HMk.out ?_)
  rw [HS1.out] at HS4
  clear r0 r1 r2 r3
  rintro e w5 ⟨v, ps, rfl, hps, hop, hb5⟩
  obtain ⟨pa, pc, hv, -, hit⟩ := hop.is
  rw [hps] at hit
  obtain ⟨pn, hpn⟩ : ∃ pn, pn = ps.length := ⟨_, rfl⟩
  rw [← hpn] at hv hit
  subst hv
  have hpl : pn ≤ 8192 := by
    have h1 := congrArg List.length hps
    rw [List.length_map] at h1
    have h2 := HLen.out
    omega
  have hpf : fin.length = pn := hit.1
  have HIt := hide (fun (u : World) (hu : Below w5.heap.size w5 u) => hit.below hu)
  have HB5 := hide (keepB hb5 (Nat.le_refl _) HB4.out)
  have HS5 := hide (below_blk hb5 (heap_lt HS4.out) HS4.out)
  have HI5 := hide (fun (u : World) (hu : Below w5.heap.size w5 u) => HI4.out u (keepB hu (Nat.le_refl _) hb5))
  have HCv := hide (fun (u : World) (hu : Below w5.heap.size w5 u) => conv_src (cap := c') (HP.out u (keepB hu (Nat.le_refl _) HB5.out)))
  rw [← HX.out] at HCv
  have e0 : (z == z) = true := by simp
  have HFl := hide hpf
  obtain ⟨S1, hS1⟩ : ∃ S1, S1 = w.heap.size := ⟨_, rfl⟩
  clear hb5 hps hop hit hpn HB4 HS4 HI4 HMk hpf
  go_wp2_with fail
  refine wp_region_g (GT w5 w.heap.size #[.int .i64 sz, .int .i64 cut, .int .i64 len, .slice av n cv] sz cut len (.slice av n cv) bs fin z)
    [some (some (sigV sz cut len (.slice av n cv))), none, some (some (.slice a' m' c')), some (some (.string X)), none, some none, some none, some none, some none, some none] (by kernel_rfl) (by kernel_rfl) [1, 4] [1, 4, 5, 6, 7, 8, 9] rfl rfl (by kernel_rfl) ⟨⟨(Below.refl _ _).drew, HS5.out⟩, HI5.out _ (Below.refl _ _).drew⟩ ?_
  refine gF_step (by rfl) (fun h u K hT hK => ?_) ?_
  · obtain ⟨r0, r1, r2, r3⟩ := Sig4.cells (T := 50) hT.base.2
    go_simp
    exact hK _ hT
  simp only [Act.put, List.setIfInBounds_toArray, List.set_cons_zero, List.set_cons_succ]
  refine gD_step (fun p => ∃ av cv, p = sigV sz cut len (.slice av n cv)) ⟨_, none, 0, rfl⟩ (by rfl) (fun u K hT hK => ?_) (fun p hp => ?_)
  · have hT0 : GT w5 w.heap.size #[.int .i64 sz, .int .i64 cut, .int .i64 len, .slice av n cv] sz cut len (.slice av n cv) bs fin z [] u := hT
    have hT1 := hT0.2
    have hT2 := hT0.1
    go_simp
    go_at_call 25
    (with_reducible refine Calls.mono (Dn.plain_c u sz cut len av n cv bs hT1 hml hn6) ?_)
    rintro e u2 ⟨v, rfl, ho, hu⟩
    have his := ho.is
    obtain ⟨_, a2, c2, rfl, _⟩ := ho.is
    rw [hml]
    exact hK _ _ ⟨a2, c2, rfl⟩ ⟨⟨keepB hu (Nat.le_refl _) hT2.1, below_blk hu (heap_lt hT2.2) hT2.2⟩, a2, c2, by rw [hml], his⟩
  obtain ⟨a2, c2, rfl⟩ := hp
  simp only [Act.put, List.setIfInBounds_toArray, List.set_cons_zero, List.set_cons_succ]
  refine gF_step (by rfl) (fun h u K hT hK => ?_) ?_
  · go_simp
    exact hK _ hT
  simp only [Act.put, List.setIfInBounds_toArray, List.set_cons_zero, List.set_cons_succ]
  refine gF_step (by rfl) (fun h u K hT hK => ?_) ?_
  · go_simp
    rw [HCv.out _ hT.base.1]
    go_simp
    exact hK _ hT
  simp only [Act.put, List.setIfInBounds_toArray, List.set_cons_zero, List.set_cons_succ]
  refine gD_step (fun r => ∃ va vn vc, r = .tuple #[.slice va vn vc, .int .i64 z]) ⟨_, none, 0, 0, rfl⟩ (by rfl) (fun u K hT hK => ?_) (fun r hr => ?_)
  · obtain ⟨hT2, av', cv', e, hi⟩ := hT
    have e' : a2 = av' ∧ c2 = cv' := by
      rw [hml] at e
      unfold sigV at e
      simpa using e
    obtain ⟨rfl, rfl⟩ := e'
    rw [hml] at hi
    have hrm := HRm.out u a2 c2 hi
    unfold sigV at hrm ⊢
    go_simp
    go_at_call 24
    (with_reducible refine Calls.mono hrm ?_)
    rintro e u2 ⟨v, rfl, ho, hu⟩
    have hf : ∃ a n c, v = .slice a n c := by
      rcases ho.form with ⟨h, _⟩ | ⟨g, cap, h, _⟩
      · exact ⟨_, _, _, h⟩
      · exact ⟨_, _, _, h⟩
    obtain ⟨va, vn, vc, rfl⟩ := hf
    exact hK _ _ ⟨va, vn, vc, rfl⟩ ⟨⟨keepB hu (Nat.le_refl _) hT2.1, below_blk hu (heap_lt hT2.2) hT2.2⟩, _, rfl, row_down ho hT2.1.size⟩
  obtain ⟨va, vn, vc, rfl⟩ := hr
  simp only [Act.put, List.setIfInBounds_toArray, List.set_cons_zero, List.set_cons_succ]
  refine gG_step (v := .tuple #[.slice va vn vc, .int .i64 z]) (by rfl) (fun h' u K hT hK => ?_) ?_
  · go_simp
    exact hK _ hT
  simp only [Act.put, List.setIfInBounds_toArray, List.set_cons_zero, List.set_cons_succ]
  refine gG_step (v := .slice va vn vc) (by rfl) (fun h' u K hT hK => ?_) ?_
  · go_simp
    exact hK _ hT
  simp only [Act.put, List.setIfInBounds_toArray, List.set_cons_zero, List.set_cons_succ]
  refine gG_step (v := .int .i64 z) (by rfl) (fun h' u K hT hK => ?_) ?_
  · go_simp
    exact hK _ hT
  simp only [Act.put, List.setIfInBounds_toArray, List.set_cons_zero, List.set_cons_succ]
  refine gG_step (v := .slice va vn vc) (by rfl) (fun h' u K hT hK => ?_) ?_
  · go_simp
    exact hK _ hT
  simp only [Act.put, List.setIfInBounds_toArray, List.set_cons_zero, List.set_cons_succ]
  refine gG_step (v := .int .i64 z) (by rfl) (fun h' u K hT hK => ?_) ?_
  · go_simp
    exact hK _ hT
  simp only [Act.put, List.setIfInBounds_toArray, List.set_cons_zero, List.set_cons_succ]
  refine g_nil (fun w6 hT6 => ?_)
  obtain ⟨⟨hb6, hS6⟩, v6, e6, ho6⟩ := hT6
  simp only [Value.tuple.injEq] at e6
  obtain rfl : Value.slice va vn vc = v6 := by
    have := congrArg (·[0]?) e6
    simpa using this
  have HB6 := hide (keepB hb6 (Nat.le_refl _) HB5.out)
  obtain ⟨va', vc', hv6, hir⟩ := ho6.is
  have HR6 := hide (fun (u : World) (hu : Below w6.heap.size w6 u) => hir.below hu)
  have HT6 := hide (fun (u : World) (hu : Below w6.heap.size w6 u) => (HIt.out u (keepB hu (Nat.le_refl _) hb6)))
  injection hv6 with e1 e2 e3
  subst e1 e2 e3
  clear hb6 hS6 ho6 hir HI5 HS5 HB5 HIt e6 HRm
  go_wp2_with fail
  (with_reducible refine Calls.mono (plain_c w6 pa pn pc fin (HT6.out w6 (Below.refl _ _)) (by omega)) ?_)
  rintro e w7 ⟨vp, rfl, hop, hb7⟩
  obtain ⟨qa, qc, hvp, hiq⟩ := hop.is
  subst hvp
  have HQ := hide (same_c w7 qa va fin.length qc vc fin hiq (HR6.out w7 hb7))
  have HB7 := hide (keepB hb7 (Nat.le_refl _) HB6.out)
  clear hb7 hop hiq HR6 HT6 HB6
  go_wp2_with fail
  (with_reducible refine Calls.mono HQ.out ?_)
  rintro e w8 ⟨rfl, hb8⟩
  have HB8 := hide (keepB hb8 (Nat.le_refl _) HB7.out)
  clear hb8 HB7 HQ
  go_wp2
  go_ret
  exact ⟨rfl, HB8.out⟩
theorem walk_any (sz cut len : Int) (av a' : Option Addr) (n cv m' c' : Nat) (bs : List Blk) (P : List Nat) (w : World) (hb : IsBks .u32 w (.slice av n cv) bs) (hml : bs.length = n) (hl2 : len ≤ 9223372036854775807) (hs' : SrcB w a' m' P) (hc' : m' ≤ c') (hcm' : c' ≤ 9223372036854775807) (hn' : a' = none → m' = 0) (hT : Tbl w) (hF : Fst w) :
    Calls Tryd.prog 5 #[sigV sz cut len (.slice av n cv), .slice a' m' c'] w fun e w' => e = .returned (.bool true) ∧ Below w.heap.size w w' := by
  by_cases hg : 60 < n ∨ 80 < m'
  · exact out_walk sz cut len av a' n cv m' c' w hT hF hg
  · exact in_walk sz cut len av a' n cv m' c' bs P w hb hml hl2 hs' hc' hcm' hn' hT hF (by omega) (by omega)
end Go.Proofs.YtkinpbhbgeiflaaDoor.DeltaRawW
