/- DeltaJoined's walk. -/
import Derived.Test.YtkinpbhbgeiflaaDoorQk
import Derived.Test.YtkinpbhbgeiflaaDoorDt
namespace Go.Proofs.YtkinpbhbgeiflaaDoor.DeltaJoinedW
set_option linter.unusedVariables false
set_option linter.unusedSimpArgs false
set_option maxRecDepth 100000
open Go.ChangeShapes Go.WideShapes Go.ChangeAt Go.RowKit
open Go.Proofs.YtkinpbhbgeiflaaDoor.Wu Go.Proofs.YtkinpbhbgeiflaaDoor.Sm Go.Proofs.YtkinpbhbgeiflaaDoor.Sh Go.Proofs.YtkinpbhbgeiflaaDoor.Ba Go.Proofs.YtkinpbhbgeiflaaDoor.Bp Go.Proofs.YtkinpbhbgeiflaaDoor.Bq Go.Proofs.YtkinpbhbgeiflaaDoor.Bs Go.Proofs.YtkinpbhbgeiflaaDoor.Ka Go.Proofs.YtkinpbhbgeiflaaDoor.Kb Go.Proofs.YtkinpbhbgeiflaaDoor.Kc Go.Proofs.YtkinpbhbgeiflaaDoor.Kd Go.Proofs.YtkinpbhbgeiflaaDoor.Ke Go.Proofs.YtkinpbhbgeiflaaDoor.Kf Go.Proofs.YtkinpbhbgeiflaaDoor.Rk Go.Proofs.YtkinpbhbgeiflaaDoor.Rg Go.Proofs.YtkinpbhbgeiflaaDoor.Rx Go.Proofs.YtkinpbhbgeiflaaDoor.Rw Go.Proofs.YtkinpbhbgeiflaaDoor.Kh Go.Proofs.YtkinpbhbgeiflaaDoor.Ki Go.Proofs.YtkinpbhbgeiflaaDoor.Kj Go.Proofs.YtkinpbhbgeiflaaDoor.Kx Go.Proofs.YtkinpbhbgeiflaaDoor.Da Go.Proofs.YtkinpbhbgeiflaaDoor.Db Go.Proofs.YtkinpbhbgeiflaaDoor.Dk Go.Proofs.YtkinpbhbgeiflaaDoor.Dl Go.Proofs.YtkinpbhbgeiflaaDoor.Dm Go.Proofs.YtkinpbhbgeiflaaDoor.Do Go.Proofs.YtkinpbhbgeiflaaDoor.Dp Go.Proofs.YtkinpbhbgeiflaaDoor.Dr
open Go.Proofs.YtkinpbhbgeiflaaDoor.Sn (Fst fst_keep)
open Go.Proofs.YtkinpbhbgeiflaaDoor.Sxa (Tbl tbl_keep)
open Go.Proofs.YtkinpbhbgeiflaaDoor.Su (cutL Cnt)
attribute [local go_sem] kUpon_value kUpon_skip kUpon_enter
open Go.Proofs.YtkinpbhbgeiflaaDoor.Dt Go.Proofs.YtkinpbhbgeiflaaDoor.Ds
theorem sumC_take {ts : List Tok} {i : Nat} {t : Tok} (h : ts[i]? = some t) : sumC (ts.take (i + 1)) = sumC (ts.take i) + t.c := by
  rw [List.take_add_one, h, sumC_append]
  simp [sumC]
theorem sumC_bd : ∀ {ts : List Tok}, Blks ts → ∀ i, 0 ≤ sumC (ts.take i) ∧ sumC (ts.take i) ≤ sumC ts
  | [], _, i => by simp [sumC]
  | t :: ts, h, 0 => by
    have := sumC_bd (ts := ts) (fun x hx => h x (List.mem_cons_of_mem _ hx)) ts.length
    rw [List.take_length] at this
    have ht := (h t (by simp)).2
    simp only [List.take_zero, sumC]
    omega
  | t :: ts, h, i + 1 => by
    have := sumC_bd (ts := ts) (fun x hx => h x (List.mem_cons_of_mem _ hx)) i
    have ht := (h t (by simp)).2
    simp only [List.take_succ_cons, sumC]
    omega
theorem fits_in {x y : Int} {m : Nat} (hf : fitsE x y m = 0) : ∃ s k n : Nat, x = (s : Int) ∧ y = (k : Int) ∧ cntZ m s = (n : Int) := by
  have hz := fitsE_zero hf
  obtain ⟨s, rfl⟩ := Int.eq_ofNat_of_zero_le (show 0 ≤ x by omega)
  obtain ⟨k, rfl⟩ := Int.eq_ofNat_of_zero_le (show 0 ≤ y by omega)
  obtain ⟨n, hn⟩ : ∃ n : Nat, cntZ (m : Int) (s : Int) = (n : Int) := ⟨(cntZ (m : Int) (s : Int)).toNat, by have := cntZ_nonneg (m : Int) (s : Int); omega⟩
  exact ⟨s, k, n, rfl, rfl, hn⟩
theorem out_walk (a a' : Option Addr) (m c m' c' : Nat) (x y : Int) (w : World) (hT : Tbl w) (hF : Fst w) (hg : 300 < m ∨ 300 < m') :
    Calls Tryd.prog 8 #[.slice a m c, .slice a' m' c', .agg #[.int .i64 x, .int .i64 y]] w fun e w' => e = .returned (.bool true) ∧ Below w.heap.size w w' := by
  have hn := below_new w (.cells #[.int .i64 x, .int .i64 y] 47)
  have HH := hide (tells_c (w.alloc (.cells #[.int .i64 x, .int .i64 y] 47)) (tbl_keep hT hn (Nat.le_refl _)) (fst_keep hF hn (Nat.le_refl _)))
  have HN := hide hn
  clear hT hF hn
  have hc : 300 < m ∨ (¬ 300 < m ∧ 300 < m') := by omega
  clear hg
  rcases hc with h1 | ⟨h1, h2⟩
  · have d1 : decide ((300 : Int) < (m : Int)) = true := by simp; omega
    have d1' : decide (300 < m) = true := by simp; omega
    clear h1
    go_enter Tryd.func8, Tryd.ntmps8
    go_wp2_with fail
    generalize (w.alloc (.cells #[.int .i64 x, .int .i64 y] 47)) = w0 at *
    refine HH.out.mono ?_
    rintro e w1 ⟨rfl, hb1⟩
    have HB1 := hide (keepB hb1 (Nat.le_refl _) HN.out)
    clear hb1
    go_wp2
    go_ret
    exact ⟨rfl, HB1.out⟩
  · have d1 : decide ((300 : Int) < (m : Int)) = false := by simp; omega
    have d1' : decide (300 < m) = false := by simp; omega
    have d2 : decide ((300 : Int) < (m' : Int)) = true := by simp; omega
    have d2' : decide (300 < m') = true := by simp; omega
    clear h1 h2
    go_enter Tryd.func8, Tryd.ntmps8
    go_wp2_with fail
    generalize (w.alloc (.cells #[.int .i64 x, .int .i64 y] 47)) = w0 at *
    refine HH.out.mono ?_
    rintro e w1 ⟨rfl, hb1⟩
    have HB1 := hide (keepB hb1 (Nat.le_refl _) HN.out)
    clear hb1
    go_wp2
    go_ret
    exact ⟨rfl, HB1.out⟩
set_option maxHeartbeats 1600000 in
theorem bad_walk (a a' : Option Addr) (m c m' c' : Nat) (x y : Int) (w : World) (hT : Tbl w) (hF : Fst w) (hm : m ≤ 300) (hm' : m' ≤ 300) (hf : fitsE x y m ≠ 0) :
    Calls Tryd.prog 8 #[.slice a m c, .slice a' m' c', .agg #[.int .i64 x, .int .i64 y]] w fun e w' => e = .returned (.bool true) ∧ Below w.heap.size w w' := by
  have hnw := below_new w (.cells #[.int .i64 x, .int .i64 y] 47)
  have HH := hide (tells_c (w.alloc (.cells #[.int .i64 x, .int .i64 y] 47)) (tbl_keep hT hnw (Nat.le_refl _)) (fst_keep hF hnw (Nat.le_refl _)))
  have HN := hide hnw
  have HP := hide (heap_last w (.cells #[.int .i64 x, .int .i64 y] 47))
  have HA := hide (fun u => make_bad a m c x y u (by omega) hf)
  obtain ⟨z, hz⟩ : ∃ z, z = fitsE x y m := ⟨_, rfl⟩
  rw [← hz] at HA
  have hz0 : z ≠ 0 := by rw [hz]; exact hf
  have e1 : (z != 0) = true := by simpa using hz0
  clear hf hT hF hnw hz hz0
  have d1 : decide ((300 : Int) < (m : Int)) = false := by simp; omega
  have d1' : decide (300 < m) = false := by simp; omega
  have d2 : decide ((300 : Int) < (m' : Int)) = false := by simp; omega
  have d2' : decide (300 < m') = false := by simp; omega
  go_enter Tryd.func8, Tryd.ntmps8
  go_wp2_with fail
  generalize (w.alloc (.cells #[.int .i64 x, .int .i64 y] 47)) = w0 at *
  refine HH.out.mono ?_
  rintro e w1 ⟨rfl, hb1⟩
  have HB1 := hide (keepB hb1 (Nat.le_refl _) HN.out)
  have HP1 := hide (below_blk hb1 (heap_lt HP.out) HP.out)
  clear hb1 HH HN HP
  have c0 : w1.cell? ⟨w.heap.size, 0, none⟩ = some (.int .i64 x) := blk_cell HP1.out rfl
  have c1 : w1.cell? ⟨w.heap.size, 1, none⟩ = some (.int .i64 y) := blk_cell HP1.out rfl
  go_wp2_with fail
  (with_reducible refine Calls.mono (HA.out w1) ?_)
  rintro e w3 ⟨rfl, hb3⟩
  have HB3 := hide (keepB hb3 (Nat.le_refl _) HB1.out)
  clear hb3 HB1 HA HP1 c0 c1
  unfold sigV
  have HB4 := hide (keepB (below_new w3 (.cells #[.int .i64 0, .int .i64 0, .int .i64 0, .slice none 0 0] 50)) (Nat.le_refl _) HB3.out)
  go_wp2
  go_ret
  exact ⟨rfl, HB4.out⟩
set_option maxHeartbeats 6400000 in
theorem in_walk (a a' : Option Addr) (m c m' c' : Nat) (D P : List Nat) (s k n : Nat) (w : World) (hs : SrcB w a m D) (hc : m ≤ c) (hcm : c ≤ 9223372036854775807) (hs' : SrcB w a' m' P) (hc' : m' ≤ c') (hcm' : c' ≤ 9223372036854775807) (hn' : a' = none → m' = 0) (hn0 : a = none → m = 0) (hT : Tbl w) (hF : Fst w) (hm : m ≤ 300) (hm' : m' ≤ 300)
    (hf : fitsE (s : Int) (k : Int) m = 0) (hn : cntZ m s = (n : Int)) :
    Calls Tryd.prog 8 #[.slice a m c, .slice a' m' c', .agg #[.int .i64 (s : Int), .int .i64 (k : Int)]] w fun e w' => e = .returned (.bool true) ∧ Below w.heap.size w w' := by
  have hz := fitsE_zero hf
  have hn4 : n ≤ 4096 := by omega
  have hn6 : n ≤ 1000000 := by omega
  have hch := mk_check D s k n m hf hn
  have hml := mkB_length D s k n
  have hPl := hs'.1
  have hP8 := hs'.2.1
  have hnw := below_new w (.cells #[.int .i64 (s : Int), .int .i64 (k : Int)] 47)
  have HH := hide (tells_c (w.alloc (.cells #[.int .i64 (s : Int), .int .i64 (k : Int)] 47)) (tbl_keep hT hnw (Nat.le_refl _)) (fst_keep hF hnw (Nat.le_refl _)))
  have HN := hide hnw
  have HPr := hide (heap_last w (.cells #[.int .i64 (s : Int), .int .i64 (k : Int)] 47))
  have HA := hide (fun u (hu : Below w.heap.size w u) => make_ok a m c D s k n u (hs.below hu) hc hcm hf hn (tbl_keep hT hu (Nat.le_refl _)) (fst_keep hF hu (Nat.le_refl _)))
  have HP := hide (fun (u : World) (hu : Below w.heap.size w u) => hs'.below hu)
  have HTF := hide (fun (u : World) (hu : Below w.heap.size w u) => (⟨tbl_keep hT hu (Nat.le_refl _), fst_keep hF hu (Nat.le_refl _)⟩ : Tbl u ∧ Fst u))
  have hown := own_told (k := k) (show 1 ≤ s by omega) hs.1 hn n 0 D.length [] (by omega) (by simp) (fun t ht => by cases ht)
  rw [Nat.zero_mul, List.drop_zero] at hown
  have HDs := hide (fun (u : World) (hu : Below w.heap.size w u) => hs.below hu)
  obtain ⟨bs, hbs⟩ : ∃ bs, bs = mkB D s k n := ⟨_, rfl⟩
  rw [← hbs] at HA hch hml hown
  have HMo := hide (fun (u : World) (av : Option Addr) (cv : Nat) (hu : Below w.heap.size w u) (hb : IsBks .u32 u (.slice av n cv) bs) => make_c u s k m n cv av bs a m c D hb hml hch (HDs.out u hu) hc hcm hn0 (by omega) (HTF.out u hu).1 (HTF.out u hu).2)
  obtain ⟨fin2, hfin2⟩ : ∃ fin2, fin2 = mkA (fdOf s k m bs) s D := ⟨_, rfl⟩
  rw [← hfin2] at HMo
  have HBk : Hid (Blks fin2) := hide (by rw [hfin2]; exact hown.1)
  have HSm : Hid (sumC fin2 = (n : Int)) := hide (by rw [hfin2]; unfold mkA; rw [hown.2]; simp [sumC])
  have hadj := mkT_adj (fd := fdOf s k m bs) (s := s) (m := n) (by omega) (fun P i h => by have := fdOf_lt h; omega) P.length P [] hP8 (fun i a b h => by simp at h) (fun t ht => by cases ht) (fun t ht => by cases ht)
  have hwf1 := mkT_wf (fd := fdOf s k m bs) (s := s) (fun P i h => by have := fdOf_lt h; omega) P.length P [] hP8 (fun t ht => by cases ht)
  clear hown hfin2
  obtain ⟨sz, hsz⟩ : ∃ sz : Int, sz = (s : Int) := ⟨_, rfl⟩
  obtain ⟨cut, hcut⟩ : ∃ cut : Int, cut = (k : Int) := ⟨_, rfl⟩
  obtain ⟨len, hlen⟩ : ∃ len : Int, len = (m : Int) := ⟨_, rfl⟩
  rw [← hsz, ← hcut] at HH HN HPr HA hch ⊢
  rw [← hlen] at HA hch
  have hl2 : len ≤ 9223372036854775807 := by omega
  obtain ⟨fin, hfin⟩ : ∃ fin, fin = if checkE sz cut len bs = 0 then mkA (fdOf sz.toNat cut.toNat len.toNat bs) sz.toNat P else [] := ⟨_, rfl⟩
  obtain ⟨z, hz2⟩ : ∃ z, z = checkE sz cut len bs := ⟨_, rfl⟩
  have hfe : fin = mkT (fdOf s k m bs) s P.length P [] := by
    rw [hfin, if_pos hch, hsz, hcut, hlen]
    rfl
  have HAd : Hid (Adj fin ∧ (∀ t ∈ fin, Bnd n t) ∧ ∀ t ∈ fin, t.wf) := hide (by rw [hfe]; exact ⟨hadj.1, hadj.2, hwf1⟩)
  clear hadj hwf1 hfe
  have HMa := hide (fun (u : World) (av : Option Addr) (cv : Nat) (hu : Below w.heap.size w u) (hb : IsBks .u32 u (.slice av n cv) bs) => make_any u sz cut len av n cv bs a' m' c' P hb hml hn6 hl2 (HP.out u hu) hc' hcm' hn' (by omega) (HTF.out u hu).1 (HTF.out u hu).2 fin z hz2 hfin)
  have HLen : Hid (fin.length ≤ 8192) := hide (by
    rw [hfin]
    by_cases h : checkE sz cut len bs = 0
    · rw [if_pos h]
      have := mkT_length (fdOf sz.toNat cut.toNat len.toNat bs) sz.toNat P.length P []
      have h0 : ([] : List Tok).length = 0 := rfl
      unfold mkA
      omega
    · rw [if_neg h]
      exact Nat.zero_le _)
  have e1 : (z != 0) = false := by rw [hz2, hch]; rfl
  have Hz0 := hide (hz2.trans hch)
  rw [← hsz, ← hcut, ← hlen] at HMo
  have hm1 : ((m : Nat) : Int) = len := hlen.symm
  have Hm1 := hide hm1
  have d1 : decide ((300 : Int) < (m : Int)) = false := by simp; omega
  have d1' : decide (300 < m) = false := by simp; omega
  have d2 : decide ((300 : Int) < (m' : Int)) = false := by simp; omega
  have d2' : decide (300 < m') = false := by simp; omega
  clear hf hn hz hs hs' hT hF hnw hch hbs hsz hcut hlen hfin hz2 hm1 hP8
  go_enter Tryd.func8, Tryd.ntmps8
  go_wp2_with fail
  generalize (w.alloc (.cells #[.int .i64 sz, .int .i64 cut] 47)) = w0 at *
  refine HH.out.mono ?_
  rintro e w1 ⟨rfl, hb1⟩
  have HB1 := hide (keepB hb1 (Nat.le_refl _) HN.out)
  have HP1 := hide (below_blk hb1 (heap_lt HPr.out) HPr.out)
  clear hb1 HH HN HPr
  have c0 : w1.cell? ⟨w.heap.size, 0, none⟩ = some (.int .i64 sz) := blk_cell HP1.out rfl
  have c1 : w1.cell? ⟨w.heap.size, 1, none⟩ = some (.int .i64 cut) := blk_cell HP1.out rfl
  go_wp2_with fail
  (with_reducible refine Calls.mono (HA.out w1 HB1.out) ?_)
  rintro e w3 ⟨v, rfl, ho, hb3⟩
  have HB3 := hide (keepB hb3 (Nat.le_refl _) HB1.out)
  have his := ho.is
  obtain ⟨_, av, cv, hv, hcv, hcvm, -⟩ := ho.is
  rw [hml] at hv hcv
  subst hv
  clear hb3 HB1 HA HP1 c0 c1 ho
  unfold sigV
  have HI4 := hide (fun (u : World) (hu : Below (w3.alloc (.cells #[.int .i64 sz, .int .i64 cut, .int .i64 len, .slice av n cv] 50)).heap.size (w3.alloc (.cells #[.int .i64 sz, .int .i64 cut, .int .i64 len, .slice av n cv] 50)) u) => (his.below (below_new w3 (.cells #[.int .i64 sz, .int .i64 cut, .int .i64 len, .slice av n cv] 50))).below hu)
  have HS4 := hide (heap_last w3 (.cells #[.int .i64 sz, .int .i64 cut, .int .i64 len, .slice av n cv] 50))
  have HB4 := hide (keepB (below_new w3 (.cells #[.int .i64 sz, .int .i64 cut, .int .i64 len, .slice av n cv] 50)) (Nat.le_refl _) HB3.out)
  clear his HB3
  go_wp2_with fail
  generalize (w3.alloc (.cells #[.int .i64 sz, .int .i64 cut, .int .i64 len, .slice av n cv] 50)) = w4 at *
  generalize w3.heap.size = S1 at *
  have HMk := hide (HMa.out w4 av cv HB4.out (HI4.out w4 (Below.refl _ _)))
  unfold sigV at HMk
  (with_reducible refine Calls.mono HMk.out ?_)
  rintro e w5 ⟨v, ps, rfl, hps, hop, hb5⟩
  obtain ⟨pa, pc, hv, -, hit⟩ := hop.is
  rw [hps] at hit
  obtain ⟨pn, hpn⟩ : ∃ pn, pn = ps.length := ⟨_, rfl⟩
  rw [← hpn] at hv hit
  subst hv
  have HIt := hide (fun (u : World) (hu : Below w5.heap.size w5 u) => hit.below hu)
  have HB5 := hide (keepB hb5 (Nat.le_refl _) HB4.out)
  have HS5 := hide (below_blk hb5 (heap_lt HS4.out) HS4.out)
  have HI5 := hide (fun (u : World) (hu : Below w5.heap.size w5 u) => HI4.out u (keepB hu (Nat.le_refl _) hb5))
  have hz0 := Hz0.out
  subst hz0
  clear hb5 hps hop hit hpn HB4 HS4 HI4 HMk
  go_wp2_with fail
  go_loopw [48] (fun j wr => ∃ i, j = .int .i64 ((i : Nat) : Int) ∧ i ≤ pn ∧ Below w5.heap.size w5 wr) (fun j _ => pn - (intOf j).toNat)
  case atStart => exact ⟨0, rfl, Nat.zero_le _, Below.refl _ _⟩
  case round =>
    obtain ⟨i, rfl, hi, hB⟩ := hrel
    have HB := hide hB
    clear hB
    obtain ⟨fl, fnc, fcm, g, off, fa, fat⟩ := HIt.out _ HB.out
    by_cases hlt : i < pn
    · obtain ⟨t, ht⟩ : ∃ t, fin[i]? = some t := ⟨fin[i]'(by rw [fl]; exact hlt), by rw [List.getElem?_eq_getElem]⟩
      obtain ⟨tad, tm, tcd, c0, c1, c2, hts, -⟩ := fat i t ht
      have ha1 := fa (by omega)
      subst ha1
      have htm := hts.1
      have htw := HAd.out.2.2 t (List.mem_of_getElem? ht)
      have htb := HAd.out.2.1 t (List.mem_of_getElem? ht)
      have e1 : decide ((i : Int) < (pn : Int)) = true := by simpa using hlt
      have i1 : (0 : Int) ≤ (i : Int) := by omega
      have i2 : (i : Int) < (pn : Int) := by omega
      have hrg : wr.rangeAt g (off + i * 3) [.int .i64 t.f, .int .i64 t.c, .slice tad tm tcd] := fun j v hv => by
        match j, hv with
        | 0, hv => simp at hv; subst hv; exact c0
        | 1, hv => simp at hv; subst hv; rw [Nat.add_assoc]; exact c1
        | 2, hv => simp at hv; subst hv; rw [Nat.add_assoc]; exact c2
      have HPv : Hid (∀ k, i = k + 1 → ∃ p, fuse p t = none ∧ p.wf ∧ ∀ u, Below w5.heap.size w5 u → u.cell? ⟨g, off + k * 3, none⟩ = some (.int .i64 p.f) ∧ u.cell? ⟨g, off + (k * 3 + 1), none⟩ = some (.int .i64 p.c)) := hide (fun k hk => by
        subst hk
        obtain ⟨p, hp⟩ : ∃ p, fin[k]? = some p := ⟨fin[k]'(by rw [fl]; omega), by rw [List.getElem?_eq_getElem]⟩
        refine ⟨p, HAd.out.1 k p t hp ht, HAd.out.2.2 p (List.mem_of_getElem? hp), fun u hu => ?_⟩
        obtain ⟨_, _, _, g', off', fa', fat'⟩ := HIt.out _ (Below.refl w5.heap.size w5)
        have hga := fa' (by omega)
        injection hga with hga
        injection hga with hg1 hg2
        subst hg1 hg2
        obtain ⟨_, _, _, q0, q1, _⟩ := fat' k p hp
        exact ⟨keepC hu (Nat.le_refl _) q0, keepC hu (Nat.le_refl _) q1⟩)
      obtain ⟨r0, r1, r2, r3⟩ := Sig4.cells (T := 50) (below_blk HB.out (heap_lt HS5.out) HS5.out)
      have hS1 := heap_lt HS5.out
      clear fl fa fat ht hts c0 c1 c2 r0 r1 r2
      obtain ⟨tf, tc, td⟩ := t
      simp only at htm hrg
      go_wp2_with (first
        | (refine wpList_load_part rfl 68 _ rfl g (off + i * 3) [.int .i64 tf, .int .i64 tc, .slice tad tm tcd] rfl hrg _ Tryd.underlying68 rfl (by kernel_rfl) ?_)
        | (refine wpList_store_all rfl 68 _ _ rfl wr.heap.size #[.int .i64 tf, .int .i64 tc, .slice tad tm tcd] _ 68 rfl rfl (heap_last _ _) rfl (by kernel_rfl) (all_oneCell_toArray (by intro v hv; simp only [List.mem_cons, List.not_mem_nil, or_false] at hv; rcases hv with rfl | rfl | rfl <;> rfl)) ?_))
      intro w7 H7 HG7
      refine of_hid ?_
      have hb7 : Below wr.heap.size wr w7 := belowG (below_new wr (.cells #[.int .i64 0, .int .i64 0, .slice none 0 0] 68)) HG7.out (Nat.le_refl _) (by simp)
      have HB7 := hide (keepB hb7 (Nat.le_refl _) HB.out)
      have hr3 := keepC hb7 (Nat.le_refl _) r3
      clear hrg HG7 HB hb7 r3
      generalize wr.heap.size = B at *
      have HCs := hide (fun (u : World) (hu : Below w7.heap.size w7 u) => (⟨blk_cell (below_blk hu (heap_lt H7.out) H7.out) rfl, blk_cell (below_blk hu (heap_lt H7.out) H7.out) rfl, blk_cell (below_blk hu (heap_lt H7.out) H7.out) rfl⟩ : u.cell? ⟨B, 0, none⟩ = some (.int .i64 tf) ∧ u.cell? ⟨B, 1, none⟩ = some (.int .i64 tc) ∧ u.cell? ⟨B, 2, none⟩ = some (.slice tad tm tcd)))
      clear H7
      by_cases hA : tc = 0
      · have htd : tf = 0 ∧ 0 < td.length := by
          rcases htw.2 with h1 | ⟨h1, _⟩
          · simp only [Tok.isB, decide_eq_true_eq] at h1; omega
          · simp only at h1; omega
        obtain ⟨rfl, htd2⟩ := htd
        subst hA
        have t2 : ((tm : Int) == 0) = false := by simp; omega
        have t2' : (tm == 0) = false := by simp; omega
        have HTw := hide htw
        have htm0 : 0 < tm := by omega
        have t3 : decide ((0 : Int) < (tm : Int)) = true := by simp; omega
        clear htw htb htm htd2
        obtain ⟨s0, s1, s2⟩ := HCs.out w7 (Below.refl _ _)
        rcases Nat.eq_zero_or_pos i with hi0 | hi0
        · subst hi0
          clear HPv
          go_wp2_with fail
          refine wp_region_keep (fun u => Below w7.heap.size w7 u) (by kernel_rfl) (by kernel_rfl) ((Below.refl _ _).drew) ?_
          repeat (first
            | (refine keep_not (by rfl) ?_
               simp only [Act.put, List.setIfInBounds_toArray, List.set_cons_zero, List.set_cons_succ])
            | (refine keep_step (v := ?_) (by rfl) (fun u K hS hK => ?_) ?_
               rotate_left
               · obtain ⟨s0, s1, s2⟩ := HCs.out u hS
                 have h9 : True := trivial
                 have h8 : True := trivial
                 (go_simp; with_reducible exact hK _ hS)
               simp only [Act.put, List.setIfInBounds_toArray, List.set_cons_zero, List.set_cons_succ]))
          refine keep_nil (fun w8 hS8 => ?_)
          have HB8 := hide (keepB hS8 (Nat.le_refl _) HB7.out)
          clear hS8
          go_wp2
          go_roundw
          case rel => exact ⟨0 + 1, by go_num, by omega, HB8.out⟩
          case measure => simp [intOf]; omega
        · obtain ⟨k, rfl⟩ : ∃ k, i = k + 1 := ⟨i - 1, by omega⟩
          obtain ⟨⟨pf, pcc, pd⟩, hpf, hpw, hpc⟩ := HPv.out k rfl
          have h2 := ((fuse_none_iff hpw HTw.out).1 hpf).2
          have h3 : pcc ≠ 0 := fun e => h2 ⟨rfl, e⟩
          have hpp : 0 < pcc := by
            rcases hpw.2 with h1 | ⟨h1, _⟩
            · simp only [Tok.isB, decide_eq_true_eq] at h1
              omega
            · simp only at h1; omega
          clear h3
          have HPc := hide hpc
          have q0 : (pcc == 0) = false := by simp; omega
          have q1 : decide ((0 : Int) < pcc) = true := by simpa using hpp
          have i3 : (k : Int) < (pn : Int) := by omega
          have i4 : (0 : Int) ≤ (k : Int) := by omega
          have i5 : decide ((0 : Int) < (k : Int) + 1) = true := decide_eq_true (by omega)
          have hwk : IntKind.i64.wrap (k : Int) = (k : Int) := IntWalk.i64_in _ (by omega)
          clear hpf hpw hpc h2 HPv
          go_wp2_with fail
          refine wp_region_keep (fun u => Below w7.heap.size w7 u) (by kernel_rfl) (by kernel_rfl) ((Below.refl _ _).drew) ?_
          repeat (first
            | (refine keep_not (by rfl) ?_
               simp only [Act.put, List.setIfInBounds_toArray, List.set_cons_zero, List.set_cons_succ])
            | (refine keep_step (v := ?_) (by rfl) (fun u K hS hK => ?_) ?_
               rotate_left
               · obtain ⟨s0, s1, s2⟩ := HCs.out u hS
                 obtain ⟨p0, p1⟩ := HPc.out u (keepB hS (Nat.le_refl _) HB7.out)
                 rw [← Nat.add_assoc] at p1
                 (go_simp; with_reducible exact hK _ hS)
               simp only [Act.put, List.setIfInBounds_toArray, List.set_cons_zero, List.set_cons_succ]))
          refine keep_nil (fun w8 hS8 => ?_)
          have HB8 := hide (keepB hS8 (Nat.le_refl _) HB7.out)
          clear hS8
          go_wp2
          go_roundw
          case rel => exact ⟨k + 1 + 1, by go_num, by omega, HB8.out⟩
          case measure => simp [intOf]; omega
      · have htc : 1 ≤ tc ∧ 0 ≤ tf ∧ tf + tc ≤ 4096 ∧ td = [] := by
          rcases htw.2 with h1 | h1
          · simp only [Tok.isB, decide_eq_true_eq] at h1; omega
          · exact h1
        have htb2 : tf + tc ≤ (n : Int) := htb (by simp only; omega)
        obtain ⟨htc1, htc2, htc3, rfl⟩ := htc
        have htm0 : tm = 0 := by rw [← htm]; rfl
        subst htm0
        have b1 : decide (tc < 0) = false := by simp; omega
        have b2 : decide (tf < 0) = false := by simp; omega
        have b3 : decide (0 < tc) = true := by simp; omega
        have b4 : (tc == 0) = false := by simp; omega
        have b5 : decide ((n : Int) < tf + tc) = false := by simp; omega
        have hw : IntKind.i64.wrap (tf + tc) = tf + tc := IntWalk.i64_in _ (by omega)
        have HTw := hide htw
        clear htw htb htm hA
        obtain ⟨s0, s1, s2⟩ := HCs.out w7 (Below.refl _ _)
        rcases Nat.eq_zero_or_pos i with hi0 | hi0
        · subst hi0
          clear HPv
          go_wp2_with fail
          refine wp_region_keep (fun u => Below w7.heap.size w7 u) (by kernel_rfl) (by kernel_rfl) ((Below.refl _ _).drew) ?_
          repeat (first
            | (refine keep_not (by rfl) ?_
               simp only [Act.put, List.setIfInBounds_toArray, List.set_cons_zero, List.set_cons_succ])
            | (refine keep_step (v := ?_) (by rfl) (fun u K hS hK => ?_) ?_
               rotate_left
               · obtain ⟨s0, s1, s2⟩ := HCs.out u hS
                 have h9 : True := trivial
                 have h8 : True := trivial
                 (go_simp; with_reducible exact hK _ hS)
               simp only [Act.put, List.setIfInBounds_toArray, List.set_cons_zero, List.set_cons_succ]))
          refine keep_nil (fun w8 hS8 => ?_)
          have HB8 := hide (keepB hS8 (Nat.le_refl _) HB7.out)
          clear hS8
          go_wp2
          go_roundw
          case rel => exact ⟨0 + 1, by go_num, by omega, HB8.out⟩
          case measure => simp [intOf]; omega
        · obtain ⟨k, rfl⟩ : ∃ k, i = k + 1 := ⟨i - 1, by omega⟩
          obtain ⟨⟨pf, pcc, pd⟩, hpf, hpw, hpc⟩ := HPv.out k rfl
          have h2 := ((fuse_none_iff hpw HTw.out).1 hpf).1
          have hpp : 0 ≤ pcc ∧ (0 < pcc → 0 ≤ pf ∧ pf + pcc ≤ 4096) := by
            rcases hpw.2 with h1 | ⟨h1, h3, h4, _⟩
            · simp only [Tok.isB, decide_eq_true_eq] at h1
              omega
            · simp only at h1 h3 h4; omega
          have HPc := hide hpc
          have i3 : (k : Int) < (pn : Int) := by omega
          have i4 : (0 : Int) ≤ (k : Int) := by omega
          have i5 : decide ((0 : Int) < (k : Int) + 1) = true := decide_eq_true (by omega)
          have hwk : IntKind.i64.wrap (k : Int) = (k : Int) := IntWalk.i64_in _ (by omega)
          simp only at h2
          clear hpf hpw hpc HPv
          by_cases hpc0 : 0 < pcc
          · have q0 : (pcc == 0) = false := by simp; omega
            have q1 : decide ((0 : Int) < pcc) = true := by simpa using hpc0
            have q2 : ((pf + pcc) == tf) = false := by simp; omega
            have hw2 : IntKind.i64.wrap (pf + pcc) = pf + pcc := IntWalk.i64_in _ (by omega)
            clear h2
            go_wp2_with fail
            refine wp_region_keep (fun u => Below w7.heap.size w7 u) (by kernel_rfl) (by kernel_rfl) ((Below.refl _ _).drew) ?_
            repeat (first
              | (refine keep_not (by rfl) ?_
                 simp only [Act.put, List.setIfInBounds_toArray, List.set_cons_zero, List.set_cons_succ])
              | (refine keep_step (v := ?_) (by rfl) (fun u K hS hK => ?_) ?_
                 rotate_left
                 · obtain ⟨s0, s1, s2⟩ := HCs.out u hS
                   obtain ⟨p0, p1⟩ := HPc.out u (keepB hS (Nat.le_refl _) HB7.out)
                   rw [← Nat.add_assoc] at p1
                   (go_simp; with_reducible exact hK _ hS)
                 simp only [Act.put, List.setIfInBounds_toArray, List.set_cons_zero, List.set_cons_succ]))
            refine keep_nil (fun w8 hS8 => ?_)
            have HB8 := hide (keepB hS8 (Nat.le_refl _) HB7.out)
            clear hS8
            go_wp2
            go_roundw
            case rel => exact ⟨k + 1 + 1, by go_num, by omega, HB8.out⟩
            case measure => simp [intOf]; omega
          · have q1 : decide ((0 : Int) < pcc) = false := by simpa using hpc0
            clear h2
            go_wp2_with fail
            refine wp_region_keep (fun u => Below w7.heap.size w7 u) (by kernel_rfl) (by kernel_rfl) ((Below.refl _ _).drew) ?_
            repeat (first
              | (refine keep_not (by rfl) ?_
                 simp only [Act.put, List.setIfInBounds_toArray, List.set_cons_zero, List.set_cons_succ])
              | (refine keep_step (v := ?_) (by rfl) (fun u K hS hK => ?_) ?_
                 rotate_left
                 · obtain ⟨s0, s1, s2⟩ := HCs.out u hS
                   obtain ⟨p0, p1⟩ := HPc.out u (keepB hS (Nat.le_refl _) HB7.out)
                   rw [← Nat.add_assoc] at p1
                   (go_simp; with_reducible exact hK _ hS)
                 simp only [Act.put, List.setIfInBounds_toArray, List.set_cons_zero, List.set_cons_succ]))
            refine keep_nil (fun w8 hS8 => ?_)
            have HB8 := hide (keepB hS8 (Nat.le_refl _) HB7.out)
            clear hS8
            go_wp2
            go_roundw
            case rel => exact ⟨k + 1 + 1, by go_num, by omega, HB8.out⟩
            case measure => simp [intOf]; omega
    · obtain rfl : i = pn := by omega
      have e1 : decide ((i : Int) < (i : Int)) = false := by simp
      have e1' : decide (i < i) = false := by simp
      have hb0 := keepB HB.out (Nat.le_refl _) HB5.out
      have HMk := hide (HMo.out wr av cv hb0 (HI5.out wr HB.out))
      have HBr := hide hb0
      have HSr := hide (below_blk HB.out (heap_lt HS5.out) HS5.out)
      obtain ⟨r0, r1, r2, r3⟩ := Sig4.cells (T := 50) HSr.out
      unfold sigV at HMk
      clear fl fa fat HIt HB HI5 HS5 HMo hb0 HB5
      go_wp2_with fail
      (with_reducible refine Calls.mono HMk.out ?_)
      rintro e w6 ⟨v5, ps, rfl, hps, hop, hb5⟩
      obtain ⟨pa2, pc2, hv, -, hit⟩ := hop.is
      rw [hps] at hit
      obtain ⟨pn2, hpn⟩ : ∃ pn2, pn2 = ps.length := ⟨_, rfl⟩
      rw [← hpn] at hv hit
      subst hv
      have HB6 := hide (keepB hb5 (Nat.le_refl _) HBr.out)
      have HS6 := hide (below_blk hb5 (heap_lt HSr.out) HSr.out)
      have HIt2 := hide (fun (u : World) (hu : Below w6.heap.size w6 u) => hit.below hu)
      clear hb5 hps hop hit hpn HBr HSr r0 r1 r2 r3 HMk
      go_wp2_with fail
      go_loopw [151, 14] (fun j y wr => ∃ i, j = .int .i64 ((i : Nat) : Int) ∧ y = .int .i64 (sumC (fin2.take i)) ∧ i ≤ pn2 ∧ Below w6.heap.size w6 wr) (fun j _ _ => pn2 - (intOf j).toNat)
      case atStart => exact ⟨0, rfl, by simp [sumC], Nat.zero_le _, Below.refl _ _⟩
      case round =>
        obtain ⟨i, rfl, rfl, hi, hB⟩ := hrel
        have HB := hide hB
        clear hB
        obtain ⟨fl, fnc, fcm, g, off, fa, fat⟩ := HIt2.out _ HB.out
        by_cases hlt : i < pn2
        · obtain ⟨t, ht⟩ : ∃ t, fin2[i]? = some t := ⟨fin2[i]'(by rw [fl]; exact hlt), by rw [List.getElem?_eq_getElem]⟩
          obtain ⟨tad, tm, tcd, c0, c1, c2, hts, -⟩ := fat i t ht
          have ha1 := fa (by omega)
          subst ha1
          have htk := HBk.out t (List.mem_of_getElem? ht)
          have htm : tm = 0 := by rw [← hts.1, htk.1]; rfl
          subst htm
          have hsm := sumC_take ht
          have hsb := sumC_bd HBk.out i
          have hsb2 := sumC_bd HBk.out (i + 1)
          rw [HSm.out] at hsb hsb2
          rw [hsm] at hsb2
          obtain ⟨y, hy⟩ : ∃ y, y = sumC (fin2.take i) := ⟨_, rfl⟩
          rw [← hy] at hsm hsb hsb2 ⊢
          have HY := hide hsm
          have e1 : decide ((i : Int) < (pn2 : Int)) = true := by simpa using hlt
          have i1 : (0 : Int) ≤ (i : Int) := by omega
          have i2 : (i : Int) < (pn2 : Int) := by omega
          have hrg : wr.rangeAt g (off + i * 3) [.int .i64 t.f, .int .i64 t.c, .slice tad 0 tcd] := fun j v hv => by
            match j, hv with
            | 0, hv => simp at hv; subst hv; exact c0
            | 1, hv => simp at hv; subst hv; rw [Nat.add_assoc]; exact c1
            | 2, hv => simp at hv; subst hv; rw [Nat.add_assoc]; exact c2
          have htc := htk.2
          have hw : IntKind.i64.wrap (y + t.c) = y + t.c := IntWalk.i64_in _ (by omega)
          have t0 : (t.c == 0) = false := by simp; omega
          clear fl fa fat ht hts c0 c1 c2 htk hsm hy
          go_wp2_with (first
            | (refine wpList_load_part rfl 68 _ rfl g (off + i * 3) [.int .i64 t.f, .int .i64 t.c, .slice tad 0 tcd] rfl hrg _ Tryd.underlying68 rfl (by kernel_rfl) ?_)
            | (refine wpList_store_all rfl 68 _ _ rfl wr.heap.size #[.int .i64 t.f, .int .i64 t.c, .slice tad 0 tcd] _ 68 rfl rfl (heap_last _ _) rfl (by kernel_rfl) (all_oneCell_toArray (by intro v hv; simp only [List.mem_cons, List.not_mem_nil, or_false] at hv; rcases hv with rfl | rfl | rfl <;> rfl)) ?_))
          intro w7 H7 HG7
          refine of_hid ?_
          have HB7 := hide (keepB (belowG (below_new wr (.cells #[.int .i64 0, .int .i64 0, .slice none 0 0] 68)) HG7.out (Nat.le_refl _) (by simp)) (Nat.le_refl _) HB.out)
          have s1 : w7.cell? ⟨wr.heap.size, 1, none⟩ = some (.int .i64 t.c) := blk_cell H7.out rfl
          have s2 : w7.cell? ⟨wr.heap.size, 2, none⟩ = some (.slice tad 0 tcd) := blk_cell H7.out rfl
          clear hrg H7 HG7 HB
          go_wp2
          go_roundw
          case rel => exact ⟨i + 1, by go_num, by rw [HY.out], by omega, HB7.out⟩
          case measure => simp [intOf]; omega
        · obtain rfl : i = pn2 := by omega
          have e1 : decide ((i : Int) < (i : Int)) = false := by simp
          have e1' : decide (i < i) = false := by simp
          have hall : fin2.take i = fin2 := List.take_of_length_le (by rw [fl]; exact Nat.le_refl _)
          rw [hall, HSm.out]
          have e2 : ((n : Int) == (n : Int)) = true := by simp
          have e2' : (n == n) = true := by simp
          have HBz := hide (keepB HB.out (Nat.le_refl _) HB6.out)
          obtain ⟨r0, r1, r2, r3⟩ := Sig4.cells (T := 50) (below_blk HB.out (heap_lt HS6.out) HS6.out)
          clear fl fa fat hall HB HB6 HIt2
          go_wp2
          go_ret
          exact ⟨rfl, HBz.out⟩
theorem walk_any (a a' : Option Addr) (m c m' c' : Nat) (D P : List Nat) (x y : Int) (w : World) (hs : SrcB w a m D) (hc : m ≤ c) (hcm : c ≤ 9223372036854775807) (hs' : SrcB w a' m' P) (hc' : m' ≤ c') (hcm' : c' ≤ 9223372036854775807) (hn' : a' = none → m' = 0) (hn0 : a = none → m = 0) (hT : Tbl w) (hF : Fst w) :
    Calls Tryd.prog 8 #[.slice a m c, .slice a' m' c', .agg #[.int .i64 x, .int .i64 y]] w fun e w' => e = .returned (.bool true) ∧ Below w.heap.size w w' := by
  by_cases hg : 300 < m ∨ 300 < m'
  · exact out_walk a a' m c m' c' x y w hT hF hg
  · by_cases hf : fitsE x y m = 0
    · obtain ⟨s, k, n, rfl, rfl, hn⟩ := fits_in hf
      exact in_walk a a' m c m' c' D P s k n w hs hc hcm hs' hc' hcm' hn' hn0 hT hF (by omega) (by omega) hf hn
    · exact bad_walk a a' m c m' c' x y w hT hF (by omega) (by omega) hf
end Go.Proofs.YtkinpbhbgeiflaaDoor.DeltaJoinedW
