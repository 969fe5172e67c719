/- DeltaFinds' walk. -/
import Derived.Test.YtkinpbhbgeiflaaDoorQk
import Derived.Test.YtkinpbhbgeiflaaDoorDt
namespace Go.Proofs.YtkinpbhbgeiflaaDoor.DeltaFindsW
set_option linter.unusedVariables false
set_option linter.unusedSimpArgs false
set_option maxRecDepth 100000
open Go.ChangeShapes Go.WideShapes Go.ChangeAt Go.RowKit
open Go.Proofs.YtkinpbhbgeiflaaDoor.Wu Go.Proofs.YtkinpbhbgeiflaaDoor.Sm Go.Proofs.YtkinpbhbgeiflaaDoor.Sh Go.Proofs.YtkinpbhbgeiflaaDoor.Ba Go.Proofs.YtkinpbhbgeiflaaDoor.Bp Go.Proofs.YtkinpbhbgeiflaaDoor.Bq Go.Proofs.YtkinpbhbgeiflaaDoor.Bs Go.Proofs.YtkinpbhbgeiflaaDoor.Ka Go.Proofs.YtkinpbhbgeiflaaDoor.Kb Go.Proofs.YtkinpbhbgeiflaaDoor.Kc Go.Proofs.YtkinpbhbgeiflaaDoor.Kd Go.Proofs.YtkinpbhbgeiflaaDoor.Ke Go.Proofs.YtkinpbhbgeiflaaDoor.Kf Go.Proofs.YtkinpbhbgeiflaaDoor.Rk Go.Proofs.YtkinpbhbgeiflaaDoor.Rg Go.Proofs.YtkinpbhbgeiflaaDoor.Rx Go.Proofs.YtkinpbhbgeiflaaDoor.Rw Go.Proofs.YtkinpbhbgeiflaaDoor.Kh Go.Proofs.YtkinpbhbgeiflaaDoor.Ki Go.Proofs.YtkinpbhbgeiflaaDoor.Kj Go.Proofs.YtkinpbhbgeiflaaDoor.Kx Go.Proofs.YtkinpbhbgeiflaaDoor.Da Go.Proofs.YtkinpbhbgeiflaaDoor.Db Go.Proofs.YtkinpbhbgeiflaaDoor.Dk Go.Proofs.YtkinpbhbgeiflaaDoor.Dl Go.Proofs.YtkinpbhbgeiflaaDoor.Dm Go.Proofs.YtkinpbhbgeiflaaDoor.Do Go.Proofs.YtkinpbhbgeiflaaDoor.Dp Go.Proofs.YtkinpbhbgeiflaaDoor.Dr
open Go.Proofs.YtkinpbhbgeiflaaDoor.Sn (Fst fst_keep)
open Go.Proofs.YtkinpbhbgeiflaaDoor.Sxa (Tbl tbl_keep)
open Go.Proofs.YtkinpbhbgeiflaaDoor.Su (cutL Cnt)
attribute [local go_sem] kUpon_value kUpon_skip kUpon_enter
open Go.Proofs.YtkinpbhbgeiflaaDoor.Dt Go.Proofs.YtkinpbhbgeiflaaDoor.Kv
theorem sumC_take {ts : List Tok} {i : Nat} {t : Tok} (h : ts[i]? = some t) : sumC (ts.take (i + 1)) = sumC (ts.take i) + t.c := by
  rw [List.take_add_one, h, sumC_append]
  simp [sumC]
theorem sumC_bd : ∀ {ts : List Tok}, Blks ts → ∀ i, 0 ≤ sumC (ts.take i) ∧ sumC (ts.take i) ≤ sumC ts
  | [], _, i => by simp [sumC]
  | t :: ts, h, 0 => by
    have := sumC_bd (ts := ts) (fun x hx => h x (List.mem_cons_of_mem _ hx)) ts.length
    rw [List.take_length] at this
    have ht := (h t (by simp)).2
    simp only [List.take_zero, sumC]
    omega
  | t :: ts, h, i + 1 => by
    have := sumC_bd (ts := ts) (fun x hx => h x (List.mem_cons_of_mem _ hx)) i
    have ht := (h t (by simp)).2
    simp only [List.take_succ_cons, sumC]
    omega
set_option maxHeartbeats 1600000 in
theorem out_walk (a ao : Option Addr) (m c lo co : Nat) (x : Int) (w : World) (hT : Tbl w) (hF : Fst w) (hg : 150 < m ∨ 20 < lo ∨ x < 1 ∨ 50 < x) :
    Calls Tryd.prog 11 #[.slice a m c, .int .i64 x, .slice ao lo co] w fun e w' => e = .returned (.bool true) ∧ Below w.heap.size w w' := by
  have HT := hide (tells_c w hT hF)
  clear hT hF
  have hc : 150 < m ∨ (¬ 150 < m ∧ 20 < lo) ∨ (¬ 150 < m ∧ ¬ 20 < lo ∧ x < 1) ∨ (¬ 150 < m ∧ ¬ 20 < lo ∧ ¬ x < 1 ∧ 50 < x) := by omega
  clear hg
  have tfm : ∀ p : Prop, ∀ [Decidable p], p → decide p = true := fun p _ h => by simpa using h
  have tff : ∀ p : Prop, ∀ [Decidable p], ¬ p → decide p = false := fun p _ h => by simpa using h
  rcases hc with h1 | ⟨h1, h2⟩ | ⟨h1, h2, h3⟩ | ⟨h1, h2, h3, h4⟩
  · have d1 : decide ((150 : Int) < (m : Int)) = true := by simp; omega
    have d1' : decide (150 < m) = true := by simp; omega
    clear tfm tff h1
    go_enter Tryd.func11, Tryd.ntmps11
    go_wp2_with fail
    refine HT.out.mono ?_
    rintro e w1 ⟨rfl, hb1⟩
    have HB1 := hide hb1
    clear hb1
    go_wp2
    go_ret
    exact ⟨rfl, HB1.out⟩
  · have d1 : decide ((150 : Int) < (m : Int)) = false := by simp; omega
    have d1' : decide (150 < m) = false := by simp; omega
    have d2 : decide ((20 : Int) < (lo : Int)) = true := by simp; omega
    have d2' : decide (20 < lo) = true := by simp; omega
    clear tfm tff h1 h2
    go_enter Tryd.func11, Tryd.ntmps11
    go_wp2_with fail
    refine HT.out.mono ?_
    rintro e w1 ⟨rfl, hb1⟩
    have HB1 := hide hb1
    clear hb1
    go_wp2
    go_ret
    exact ⟨rfl, HB1.out⟩
  · have d1 : decide ((150 : Int) < (m : Int)) = false := by simp; omega
    have d1' : decide (150 < m) = false := by simp; omega
    have d2 : decide ((20 : Int) < (lo : Int)) = false := by simp; omega
    have d2' : decide (20 < lo) = false := by simp; omega
    have d3 : decide (x < 1) = true := by simpa using h3
    clear tfm tff h1 h2 h3
    go_enter Tryd.func11, Tryd.ntmps11
    go_wp2_with fail
    refine HT.out.mono ?_
    rintro e w1 ⟨rfl, hb1⟩
    have HB1 := hide hb1
    clear hb1
    go_wp2
    go_ret
    exact ⟨rfl, HB1.out⟩
  · have d1 : decide ((150 : Int) < (m : Int)) = false := by simp; omega
    have d1' : decide (150 < m) = false := by simp; omega
    have d2 : decide ((20 : Int) < (lo : Int)) = false := by simp; omega
    have d2' : decide (20 < lo) = false := by simp; omega
    have d3 : decide (x < 1) = false := by simpa using h3
    have d4 : decide (50 < x) = true := by simpa using h4
    clear tfm tff h1 h2 h3 h4
    go_enter Tryd.func11, Tryd.ntmps11
    go_wp2_with fail
    refine HT.out.mono ?_
    rintro e w1 ⟨rfl, hb1⟩
    have HB1 := hide hb1
    clear hb1
    go_wp2
    go_ret
    exact ⟨rfl, HB1.out⟩
/-- The first loop: whole blocks, one behind the other. -/
structure FI (w4 : World) (S1 : Nat) (sg : Array Value) (D : List Nat) (s n : Nat) (v : Value) (Ps : List (List Nat)) (u : World) : Prop where
  buf : Buf u v w4.heap.size Ps.flatten
  ps : ∀ P ∈ Ps, P.length = s ∧ ∃ i, i < n ∧ P = piece D s i
  sig : u.heap[S1]? = some (.cells sg 50 (0, 0))
  below : Below w4.heap.size w4 u
  lt : S1 < w4.heap.size
theorem flat_len {s : Nat} : ∀ {Ps : List (List Nat)}, (∀ P ∈ Ps, P.length = s) → Ps.flatten.length = Ps.length * s
  | [], _ => by simp
  | P :: Ps, h => by
    have ih := flat_len (Ps := Ps) (fun Q hQ => h Q (by simp [hQ]))
    rw [List.flatten_cons, List.length_append, ih, h P (by simp), List.length_cons, Nat.add_mul]
    omega
set_option maxHeartbeats 6400000 in
theorem in_walk (a ao : Option Addr) (m c lo co s : Nat) (D : List Nat) (zs : List Int) (w : World) (hs : SrcB w a m D) (hc : m ≤ c) (hcm : c ≤ 9223372036854775807) (hO : 0 < lo → ∃ xb xo, ao = some ⟨xb, xo, none⟩ ∧ ∀ i, i < lo → w.cell? ⟨xb, xo + i, none⟩ = some (.int .i64 (zs.getD i 0))) (hT : Tbl w) (hF : Fst w) (hm : m ≤ 150) (hlo : lo ≤ 20) (hs1 : 1 ≤ s) (hs2 : s ≤ 50) :
    Calls Tryd.prog 11 #[.slice a m c, .int .i64 (s : Int), .slice ao lo co] w fun e w' => e = .returned (.bool true) ∧ Below w.heap.size w w' := by
  obtain ⟨n, hn⟩ : ∃ n : Nat, cntZ (m : Int) (s : Int) = (n : Int) := ⟨(cntZ (m : Int) (s : Int)).toNat, by have := cntZ_nonneg (m : Int) (s : Int); omega⟩
  have hnm : n ≤ m + 1 := by
    have h1 : (m : Int) / (s : Int) ≤ (m : Int) := Int.ediv_le_self _ (by omega)
    unfold cntZ at hn
    rw [if_neg (by omega)] at hn
    split at hn <;> omega
  have hf : fitsE (s : Int) (32 : Nat) m = 0 := by
    unfold fitsE
    rw [if_neg (by omega), if_neg (by rw [hn]; omega)]
  have hDl := hs.1
  have hml := mkB_length D s 32 n
  have hch := mk_check D s 32 n m hf hn
  have HH := hide (tells_c w hT hF)
  have HA := hide (fun u (hu : Below w.heap.size w u) => make_ok a m c D s 32 n u (hs.below hu) hc hcm hf hn (tbl_keep hT hu (Nat.le_refl _)) (fst_keep hF hu (Nat.le_refl _)))
  have HSr := hide (fun (u : World) (hu : Below w.heap.size w u) => hs.below hu)
  have HTF := hide (fun (u : World) (hu : Below w.heap.size w u) => (⟨tbl_keep hT hu (Nat.le_refl _), fst_keep hF hu (Nat.le_refl _)⟩ : Tbl u ∧ Fst u))
  have HOr := hide (fun (u : World) (hu : Below w.heap.size w u) (i : Nat) (hi : i < lo) => (show ∃ xb xo, ao = some ⟨xb, xo, none⟩ ∧ u.cell? ⟨xb, xo + i, none⟩ = some (.int .i64 (zs.getD i 0)) from by
    obtain ⟨xb, xo, h1, h2⟩ := hO (by omega)
    exact ⟨xb, xo, h1, keepC hu (Nat.le_refl _) (h2 i hi)⟩))
  have HFd := hide (fun (i : Nat) (hi : i < n) => isIt_own (k := 32) (s := s) hDl hi)
  have HCnt := hide (fun (i : Nat) (h : (i + 1) * s ≤ m) => (show i < n from by
    have h1 := cnt_ge hs1 hn
    by_cases h2 : i < n
    · exact h2
    · exfalso
      have h3 : n * s ≤ i * s := Nat.mul_le_mul_right s (by omega)
      rw [Nat.add_mul] at h
      omega))
  simp only [Int.cast_ofNat_Int] at HA hch
  obtain ⟨bs, hbs⟩ : ∃ bs, bs = mkB D s 32 n := ⟨_, rfl⟩
  rw [← hbs] at HA hch hml HFd
  have Hch := hide hch
  have HSrcP := hide (fun (u : World) (hu : Below w.heap.size w u) (p i : Nat) (hp : p = i * s) (h : p + s ≤ m) => (show SrcB u (a.map (·.add p)) s (piece D s i) from by
    have := src_piece (HSr.out u hu) p s s (by omega) (by omega)
    subst hp
    exact this))
  clear hf hn hch hbs hs hO hT hF hnm HSr
  have d1 : decide ((150 : Int) < (m : Int)) = false := by simp; omega
  have d1' : decide (150 < m) = false := by simp; omega
  have d2 : decide ((20 : Int) < (lo : Int)) = false := by simp; omega
  have d2' : decide (20 < lo) = false := by simp; omega
  have d3 : decide ((s : Int) < 1) = false := by simp; omega
  have d3' : decide (s < 1) = false := by simp; omega
  have d4 : decide ((50 : Int) < (s : Int)) = false := by simp; omega
  have d4' : decide (50 < s) = false := by simp; omega
  go_enter Tryd.func11, Tryd.ntmps11
  go_wp2_with fail
  refine HH.out.mono ?_
  rintro e w1 ⟨rfl, hb1⟩
  have HB1 := hide hb1
  clear hb1 HH
  go_wp2_with fail
  (with_reducible refine Calls.mono (HA.out w1 HB1.out) ?_)
  rintro e w3 ⟨v, rfl, ho, hb3⟩
  have HB3 := hide (keepB hb3 (Nat.le_refl _) HB1.out)
  have his := ho.is
  obtain ⟨_, av, cv, hv, hcv, hcvm, -⟩ := ho.is
  rw [hml] at hv hcv
  subst hv
  clear hb3 HB1 HA ho
  unfold sigV
  have HI4 := hide (fun (u : World) (hu : Below (w3.alloc (.cells #[.int .i64 (s : Int), .int .i64 32, .int .i64 (m : Int), .slice av n cv] 50)).heap.size (w3.alloc (.cells #[.int .i64 (s : Int), .int .i64 32, .int .i64 (m : Int), .slice av n cv] 50)) u) => (his.below (below_new w3 (.cells #[.int .i64 (s : Int), .int .i64 32, .int .i64 (m : Int), .slice av n cv] 50))).below hu)
  have HS4 := hide (heap_last w3 (.cells #[.int .i64 (s : Int), .int .i64 32, .int .i64 (m : Int), .slice av n cv] 50))
  have HB4 := hide (keepB (below_new w3 (.cells #[.int .i64 (s : Int), .int .i64 32, .int .i64 (m : Int), .slice av n cv] 50)) (Nat.le_refl _) HB3.out)
  clear his HB3
  go_wp2_with fail
  generalize (w3.alloc (.cells #[.int .i64 (s : Int), .int .i64 32, .int .i64 (m : Int), .slice av n cv] 50)) = w4 at *
  generalize w3.heap.size = S1 at *
  have HF4 : Hid (FI w4 S1 #[.int .i64 (s : Int), .int .i64 32, .int .i64 (m : Int), .slice av n cv] D s n (.slice none 0 0) [] w4) := hide ⟨.inl ⟨rfl, rfl⟩, (fun P hP => by cases hP), HS4.out, Below.refl _ _, heap_lt HS4.out⟩
  clear HS4
  go_loopw [46, 9, 10] (fun j x y wr => ∃ i v q Ps, v = x ∧ j = .int .i64 ((i : Nat) : Int) ∧ y = .int .i64 ((q : Nat) : Int) ∧ i ≤ lo ∧ q ≤ i ∧ Hid (q = Ps.length) ∧ FI w4 S1 #[.int .i64 (s : Int), .int .i64 32, .int .i64 (m : Int), .slice av n cv] D s n v Ps wr) (fun j _ _ _ => lo - (intOf j).toNat)
  case atStart => exact ⟨0, _, 0, [], rfl, rfl, rfl, Nat.zero_le _, Nat.le_refl _, hide rfl, HF4.out⟩
  case round =>
    clear HF4
    obtain ⟨i, v, q, Ps, rfl, rfl, rfl, hi, hqi, Hq, hFI⟩ := hrel
    have HFI := hide hFI
    clear hFI
    by_cases hlt : i < lo
    · have hb0 := keepB HFI.out.below (Nat.le_refl _) HB4.out
      obtain ⟨xb, xo, hao, hz⟩ := HOr.out wr hb0 i hlt
      subst hao
      obtain ⟨z, hzz⟩ : ∃ z, z = zs.getD i 0 := ⟨_, rfl⟩
      rw [← hzz] at hz
      have e1 : decide ((i : Int) < (lo : Int)) = true := by simpa using hlt
      have i1 : (0 : Int) ≤ (i : Int) := by omega
      have i2 : (i : Int) < (lo : Int) := by omega
      clear hb0 hzz
      by_cases hz0 : 0 ≤ z
      · obtain ⟨zi, rfl⟩ := Int.eq_ofNat_of_zero_le hz0
        have f1 : decide ((0 : Int) ≤ (zi : Int)) = true := by simp
        by_cases hz1 : zi < 1000
        · have f2 : decide ((zi : Int) < 1000) = true := by simp; omega
          have f2' : decide (zi < 1000) = true := by simpa using hz1
          obtain ⟨p, hp⟩ : ∃ p : Nat, p = zi * s := ⟨_, rfl⟩
          have m1 : (zi : Int) * (s : Int) = (p : Int) := by rw [hp]; simp
          have m2 : ((zi : Int) + 1) * (s : Int) = (p : Int) + (s : Int) := by rw [Int.add_mul, m1, Int.one_mul]
          have hpb : p ≤ 50000 := by
            have : zi * s ≤ 1000 * 50 := Nat.mul_le_mul (by omega) (by omega)
            omega
          by_cases hfit : p + s ≤ m
          · have f3 : decide ((p : Int) + (s : Int) ≤ (m : Int)) = true := by simp; omega
            have f3' : decide (p + s ≤ m) = true := by simpa using hfit
            have hsl : ∀ u : World, _ := fun u => slice_lh u a m c p s (p : Int) ((p : Int) + (s : Int)) rfl rfl (by omega) (by omega) hc
            have hzn := HCnt.out zi (by rw [Nat.add_mul, ← hp]; omega)
            have HSp := hide (HSrcP.out wr (keepB HFI.out.below (Nat.le_refl _) HB4.out) p zi hp hfit)
            have Hp := hide hp
            have hfl := flat_len (fun P hP => (HFI.out.ps P hP).1)
            have hfb : Ps.flatten.length ≤ 1000 := by
              rw [hfl, ← Hq.out]
              have : q * s ≤ 20 * 50 := Nat.mul_le_mul (by omega) (by omega)
              omega
            have han : Hid (a.map (·.add p) = none → s = 0) := hide (fun h => by
              exfalso
              obtain ⟨hl, h8, b, off, ha, hcell⟩ := HSp.out
              rw [ha (by omega)] at h
              cases h)
            clear hp hfl
            go_wp2_with (refine Go.Proofs.YtkinpbhbgeiflaaDoor.Kv.wpList_append_own rfl _ _ rfl v w4.heap.size Ps.flatten (a.map (·.add p)) s (c - p) (piece D s zi) rfl rfl HFI.out.buf HFI.out.below.size HSp.out han.out (by omega) (.inl (by omega)) ?_)
            intro v' w7 HBf HG7 HO7
            refine of_hid ?_
            have HF7 : Hid (FI w4 S1 #[.int .i64 (s : Int), .int .i64 32, .int .i64 (m : Int), .slice av n cv] D s n v' (Ps ++ [piece D s zi]) w7) := hide ⟨by rw [List.flatten_append, List.flatten_singleton]; exact HBf.out, fun P hP => (by
                rcases List.mem_append.1 hP with hP | hP
                · exact HFI.out.ps P hP
                · rw [List.mem_singleton.1 hP]
                  exact ⟨HSp.out.1, zi, hzn, rfl⟩), (HG7.out.block S1 (heap_lt HFI.out.sig) (fun e => by have := (buf_own HFI.out.buf S1 e.symm).1; have := HFI.out.lt; omega)).trans HFI.out.sig,
                HFI.out.below.grown HG7.out HFI.out.below.size (fun g hg => (buf_own HFI.out.buf g hg).1), HFI.out.lt⟩
            have Hq7 : Hid (q + 1 = (Ps ++ [piece D s zi]).length) := hide (by have := Hq.out; simp; omega)
            clear HFI HBf HG7 HO7 Hq HSp
            go_wp2
            go_roundw
            case rel => exact ⟨i + 1, _, q + 1, _, rfl, by go_num, by go_num, by omega, by omega, Hq7.out, HF7.out⟩
            case measure => simp [intOf]; omega
          · have f3 : decide ((p : Int) + (s : Int) ≤ (m : Int)) = false := by simp; omega
            have f3' : decide (p + s ≤ m) = false := by simp; omega
            clear hp hfit
            go_wp2
            go_roundw
            case rel => exact ⟨i + 1, _, q, Ps, rfl, by go_num, rfl, by omega, by omega, Hq.out, HFI.out⟩
            case measure => simp [intOf]; omega
        · have f2 : decide ((zi : Int) < 1000) = false := by simp; omega
          have f2' : decide (zi < 1000) = false := by simp; omega
          go_wp2
          go_roundw
          case rel => exact ⟨i + 1, _, q, Ps, rfl, by go_num, rfl, by omega, by omega, Hq.out, HFI.out⟩
          case measure => simp [intOf]; omega
      · have f1 : decide ((0 : Int) ≤ z) = false := by simp; omega
        go_wp2
        go_roundw
        case rel => exact ⟨i + 1, _, q, Ps, rfl, by go_num, rfl, by omega, by omega, Hq.out, HFI.out⟩
        case measure => simp [intOf]; omega
    · obtain rfl : i = lo := by omega
      have e1 : decide ((i : Int) < (i : Int)) = false := by simp
      have e1' : decide (i < i) = false := by simp
      have hb0 := keepB HFI.out.below (Nat.le_refl _) HB4.out
      obtain ⟨da, dc, hdv, hdsrc, hdfit, hdmax, hdnil⟩ := HFI.out.buf.form
      have hfl := flat_len (fun P hP => (HFI.out.ps P hP).1)
      have hfb : Ps.flatten.length ≤ 1000 := by
        rw [hfl, ← Hq.out]
        have : q * s ≤ 20 * 50 := Nat.mul_le_mul (by omega) (by omega)
        omega
      unfold maxLen at hdmax
      have HMk := hide (make_c wr s 32 m n cv av bs da Ps.flatten.length dc Ps.flatten (HI4.out wr HFI.out.below) hml Hch.out hdsrc hdfit (by omega) (fun h => (hdnil h).1) (by omega) (HTF.out wr hb0).1 (HTF.out wr hb0).2)
      obtain ⟨fin, hfin⟩ : ∃ fin, fin = mkA (fdOf s 32 m bs) s Ps.flatten := ⟨_, rfl⟩
      have hst := some_told (fd := fdOf s 32 m bs) hs1 Ps Ps.flatten.length [] (fun P hP => ⟨(HFI.out.ps P hP).1, (by
        obtain ⟨_, j, hj, rfl⟩ := HFI.out.ps P hP
        exact HFd.out j hj)⟩) (Nat.le_refl _) (fun t ht => by cases ht)
      have hst' : Blks fin ∧ sumC fin = (q : Int) := by
        rw [hfin]
        unfold mkA
        refine ⟨hst.1, ?_⟩
        rw [hst.2, Hq.out]
        simp [sumC]
      rw [← hfin] at HMk
      have HBk := hide hst'.1
      have HSm := hide hst'.2
      have HBr := hide hb0
      have HSr := hide HFI.out.sig
      clear hst hst' hfin hdsrc hdnil hfl HI4 HOr
      obtain ⟨dn, hdn⟩ : ∃ dn, dn = Ps.flatten.length := ⟨_, rfl⟩
      rw [← hdn] at hdv hdfit HMk
      subst hdv
      unfold sigV at HMk
      simp only [Int.cast_ofNat_Int] at HMk
      obtain ⟨r0, r1, r2, r3⟩ := Sig4.cells (T := 50) HSr.out
      clear HFI hdn hfb
      go_wp2_with fail
      (with_reducible refine Calls.mono HMk.out ?_)
      rintro e w5 ⟨v5, ps, rfl, hps, hop, hb5⟩
      obtain ⟨pa, pc, hv, -, hit⟩ := hop.is
      rw [hps] at hit
      obtain ⟨pn, hpn⟩ : ∃ pn, pn = ps.length := ⟨_, rfl⟩
      rw [← hpn] at hv hit
      subst hv
      have HB5 := hide (keepB hb5 (Nat.le_refl _) HBr.out)
      have HIt := hide (fun (u : World) (hu : Below w5.heap.size w5 u) => hit.below hu)
      have HFl := hide hit.1
      clear hb5 hps hop hit hpn HBr HSr r0 r1 r2 r3 HMk
      go_wp2_with fail
      go_loopw [87, 15] (fun j y wr => ∃ i, j = .int .i64 ((i : Nat) : Int) ∧ y = .int .i64 (sumC (fin.take i)) ∧ i ≤ pn ∧ Below w5.heap.size w5 wr) (fun j _ _ => pn - (intOf j).toNat)
      case atStart => exact ⟨0, rfl, by simp [sumC], Nat.zero_le _, Below.refl _ _⟩
      case round =>
        obtain ⟨i, rfl, rfl, hi, hB⟩ := hrel
        have HB := hide hB
        clear hB
        obtain ⟨fl, fnc, fcm, g, off, fa, fat⟩ := HIt.out _ HB.out
        by_cases hlt : i < pn
        · obtain ⟨t, ht⟩ : ∃ t, fin[i]? = some t := ⟨fin[i]'(by rw [fl]; exact hlt), by rw [List.getElem?_eq_getElem]⟩
          obtain ⟨tad, tm, tcd, c0, c1, c2, hts, -⟩ := fat i t ht
          have ha1 := fa (by omega)
          subst ha1
          have htk := HBk.out t (List.mem_of_getElem? ht)
          have htm : tm = 0 := by rw [← hts.1, htk.1]; rfl
          subst htm
          have hsm := sumC_take ht
          have hsb := sumC_bd HBk.out i
          have hsb2 := sumC_bd HBk.out (i + 1)
          rw [HSm.out] at hsb hsb2
          rw [hsm] at hsb2
          obtain ⟨y, hy⟩ : ∃ y, y = sumC (fin.take i) := ⟨_, rfl⟩
          rw [← hy] at hsm hsb hsb2 ⊢
          have HY := hide hsm
          have e1 : decide ((i : Int) < (pn : Int)) = true := by simpa using hlt
          have i1 : (0 : Int) ≤ (i : Int) := by omega
          have i2 : (i : Int) < (pn : Int) := by omega
          have hrg : wr.rangeAt g (off + i * 3) [.int .i64 t.f, .int .i64 t.c, .slice tad 0 tcd] := fun j v hv => by
            match j, hv with
            | 0, hv => simp at hv; subst hv; exact c0
            | 1, hv => simp at hv; subst hv; rw [Nat.add_assoc]; exact c1
            | 2, hv => simp at hv; subst hv; rw [Nat.add_assoc]; exact c2
          have htc := htk.2
          have hw : IntKind.i64.wrap (y + t.c) = y + t.c := IntWalk.i64_in _ (by omega)
          have t0 : (t.c == 0) = false := by simp; omega
          clear fl fa fat ht hts c0 c1 c2 htk hsm hy
          go_wp2_with (first
            | (refine wpList_load_part rfl 68 _ rfl g (off + i * 3) [.int .i64 t.f, .int .i64 t.c, .slice tad 0 tcd] rfl hrg _ Tryd.underlying68 rfl (by kernel_rfl) ?_)
            | (refine wpList_store_all rfl 68 _ _ rfl wr.heap.size #[.int .i64 t.f, .int .i64 t.c, .slice tad 0 tcd] _ 68 rfl rfl (heap_last _ _) rfl (by kernel_rfl) (all_oneCell_toArray (by intro v hv; simp only [List.mem_cons, List.not_mem_nil, or_false] at hv; rcases hv with rfl | rfl | rfl <;> rfl)) ?_))
          intro w7 H7 HG7
          refine of_hid ?_
          have HB7 := hide (keepB (belowG (below_new wr (.cells #[.int .i64 0, .int .i64 0, .slice none 0 0] 68)) HG7.out (Nat.le_refl _) (by simp)) (Nat.le_refl _) HB.out)
          have s1 : w7.cell? ⟨wr.heap.size, 1, none⟩ = some (.int .i64 t.c) := blk_cell H7.out rfl
          have s2 : w7.cell? ⟨wr.heap.size, 2, none⟩ = some (.slice tad 0 tcd) := blk_cell H7.out rfl
          clear hrg H7 HG7 HB
          go_wp2
          go_roundw
          case rel => exact ⟨i + 1, by go_num, by rw [HY.out], by omega, HB7.out⟩
          case measure => simp [intOf]; omega
        · obtain rfl : i = pn := by omega
          have e1 : decide ((i : Int) < (i : Int)) = false := by simp
          have e1' : decide (i < i) = false := by simp
          have hall : fin.take i = fin := List.take_of_length_le (by rw [fl]; exact Nat.le_refl _)
          rw [hall, HSm.out]
          have e2 : ((q : Int) == (q : Int)) = true := by simp
          have e2' : (q == q) = true := by simp
          have HBz := hide (keepB HB.out (Nat.le_refl _) HB5.out)
          clear fl fa fat hall HB HB5 HIt
          go_wp2
          go_ret
          exact ⟨rfl, HBz.out⟩
theorem walk_any (a ao : Option Addr) (m c lo co : Nat) (x : Int) (D : List Nat) (zs : List Int) (w : World) (hs : SrcB w a m D) (hc : m ≤ c) (hcm : c ≤ 9223372036854775807) (hO : 0 < lo → ∃ xb xo, ao = some ⟨xb, xo, none⟩ ∧ ∀ i, i < lo → w.cell? ⟨xb, xo + i, none⟩ = some (.int .i64 (zs.getD i 0))) (hT : Tbl w) (hF : Fst w) :
    Calls Tryd.prog 11 #[.slice a m c, .int .i64 x, .slice ao lo co] w fun e w' => e = .returned (.bool true) ∧ Below w.heap.size w w' := by
  by_cases hg : 150 < m ∨ 20 < lo ∨ x < 1 ∨ 50 < x
  · exact out_walk a ao m c lo co x w hT hF hg
  · obtain ⟨s, rfl⟩ := Int.eq_ofNat_of_zero_le (show 0 ≤ x by omega)
    exact in_walk a ao m c lo co s D zs w hs hc hcm hO hT hF (by omega) (by omega) (by omega) (by omega)
end Go.Proofs.YtkinpbhbgeiflaaDoor.DeltaFindsW
