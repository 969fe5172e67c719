/- DeltaBytes' walk. -/
import Derived.Test.YtkinpbhbgeiflaaDoorQk
import Derived.Test.YtkinpbhbgeiflaaDoorDx
import Derived.Test.YtkinpbhbgeiflaaDoorDy
import Derived.Test.YtkinpbhbgeiflaaDoorDz
namespace Go.Proofs.YtkinpbhbgeiflaaDoor.DeltaBytesW
set_option linter.unusedVariables false
set_option linter.unusedSimpArgs false
set_option maxRecDepth 100000
open Go.ChangeShapes Go.WideShapes Go.ChangeAt Go.RowKit
open Go.Proofs.YtkinpbhbgeiflaaDoor.Wu Go.Proofs.YtkinpbhbgeiflaaDoor.Sm Go.Proofs.YtkinpbhbgeiflaaDoor.Sh Go.Proofs.YtkinpbhbgeiflaaDoor.Ba Go.Proofs.YtkinpbhbgeiflaaDoor.Bp Go.Proofs.YtkinpbhbgeiflaaDoor.Bq Go.Proofs.YtkinpbhbgeiflaaDoor.Bs Go.Proofs.YtkinpbhbgeiflaaDoor.Cm Go.Proofs.YtkinpbhbgeiflaaDoor.Rk Go.Proofs.YtkinpbhbgeiflaaDoor.Rw Go.Proofs.YtkinpbhbgeiflaaDoor.Da Go.Proofs.YtkinpbhbgeiflaaDoor.Db Go.Proofs.YtkinpbhbgeiflaaDoor.Dk Go.Proofs.YtkinpbhbgeiflaaDoor.Dl Go.Proofs.YtkinpbhbgeiflaaDoor.Dm Go.Proofs.YtkinpbhbgeiflaaDoor.Do Go.Proofs.YtkinpbhbgeiflaaDoor.Dp
open Go.Proofs.YtkinpbhbgeiflaaDoor.Sn (Fst fst_keep)
open Go.Proofs.YtkinpbhbgeiflaaDoor.Sxa (Tbl tbl_keep)
open Go.Proofs.YtkinpbhbgeiflaaDoor.Du (bytesE bytesL sumD bytes_c sumD_take mem_sumD)
open Go.Proofs.YtkinpbhbgeiflaaDoor.Dw (read_toks own_grown)
open Go.Proofs.YtkinpbhbgeiflaaDoor.Dx (readR_back)
open Go.Proofs.YtkinpbhbgeiflaaDoor.Dy (rbS refbytes_c)
open Go.Proofs.YtkinpbhbgeiflaaDoor.Dz (plain_big)
attribute [local go_sem] kUpon_value kUpon_skip kUpon_enter
theorem isT_of {u : World} {N : Nat} {a : Option Addr} {n c : Nat} {ps : List TV} {T : List Tok} (h : OwnT u N (.slice a n c) ps) (hp : ps.map (·.1) = T) : IsT u a n c T := by
  obtain ⟨a', c', e, -, hi⟩ := h.is
  injection e with e1 e2 e3
  rw [e1, e2, e3, ← hp]; exact hi
theorem slice_of {u : World} {N : Nat} {v : Value} {ps : List TV} {T : List Tok} (h : OwnT u N v ps) (hp : ps.map (·.1) = T) : ∃ a c, v = .slice a T.length c := by
  obtain ⟨a, c, e, -⟩ := h.is
  exact ⟨a, c, by rw [e, ← hp, List.length_map]⟩
theorem sumD_append (a b : List Tok) : sumD (a ++ b) = sumD a + sumD b := by
  induction a with
  | nil => simp [sumD]
  | cons t ts ih => simp only [List.cons_append, sumD, ih]; omega
theorem tok3_all (f c : Int) (ad : Option Addr) (m cd : Nat) : (#[Value.int .i64 f, .int .i64 c, .slice ad m cd] : Array Value).all (·.oneCell') = true :=
  all_oneCell_toArray (by intro v hv; simp only [List.mem_cons, List.not_mem_nil, or_false] at hv; rcases hv with rfl | rfl | rfl <;> rfl)
theorem bytesL_len {T : List Tok} (hE : bytesE T = 0) (hs : sumD T ≤ 20000) : (bytesL T).length ≤ 1000000 := by
  have hl : T.length ≤ 8192 := by
    by_cases h : 8192 < T.length
    · unfold bytesE at hE; rw [if_pos h] at hE; cases hE
    · omega
  have hc : ∀ t ∈ T, Du.Tok.can t := by
    unfold bytesE at hE
    rw [if_neg (by omega)] at hE
    split at hE
    · assumption
    · cases hE
  have h1 := Du.encs_len hc (fun t ht => by have := mem_sumD ht; omega)
  have h3 := numL_six T.length (by omega)
  unfold bytesL
  rw [List.length_append]
  omega
set_option maxHeartbeats 6400000 in
theorem walk_any (a : Option Addr) (n c : Nat) (T : List Tok) (w : World) (h : IsT w a n c T) (hbig : n ≤ 3999999999999) (hT : Tbl w) (hF : Fst w) :
    Calls Tryd.prog 6 #[.slice a n c] w fun e w' => e = .returned (.bool true) ∧ Below w.heap.size w w' := by
  have HT := hide (tells_c w hT hF)
  have HI := hide (fun (u : World) (hu : Below w.heap.size w u) => h.below hu)
  obtain ⟨hl, hnc, hcm, g, off, ha, hat⟩ := h
  have Hat := hide (fun i t (ht : T[i]? = some t) (u : World) (hu : Below w.heap.size w u) => by
    obtain ⟨ad, m, cd, c0, c1, c2, hs, hm, hcd, hnn⟩ := hat i t ht
    exact (⟨ad, m, cd, (fun j v hv => by
      match j, hv with
      | 0, hv => simp at hv; subst hv; exact keepC hu (Nat.le_refl _) c0
      | 1, hv => simp at hv; subst hv; rw [Nat.add_assoc]; exact keepC hu (Nat.le_refl _) c1
      | 2, hv => simp at hv; subst hv; rw [Nat.add_assoc]; exact keepC hu (Nat.le_refl _) c2), hs.1, hm, hcd⟩ : ∃ ad m cd, u.rangeAt g (off + i * 3) [.int .i64 t.f, .int .i64 t.c, .slice ad m cd] ∧ t.d.length = m ∧ m ≤ cd ∧ cd ≤ 9223372036854775807))
  have HL := hide hl
  have HBg := hide hbig
  clear hat hl hT hF hbig
  go_enter Tryd.func6, Tryd.ntmps6
  go_wp2_with fail
  refine HT.out.mono ?_
  rintro e w1 ⟨rfl, hb1⟩
  have HB1 := hide hb1
  clear hb1 HT
  go_wp2_with fail
  go_loopw [3, 16] (fun x j wr => ∃ i : Nat, j = .int .i64 ((i : Nat) : Int) ∧ i ≤ n ∧ x = .int .i64 ((sumD (T.take i) : Nat) : Int) ∧ Hid (sumD (T.take i) ≤ 20000) ∧ Below w.heap.size w wr) (fun _ j _ => n - (intOf j).toNat)
  case atStart => exact ⟨0, rfl, Nat.zero_le _, by rw [List.take_zero]; rfl, hide (by rw [List.take_zero]; simp [sumD]), HB1.out⟩
  case round =>
    clear HB1
    obtain ⟨i, rfl, hi, rfl, HSm, hB⟩ := hrel
    have HB := hide hB
    clear hB
    by_cases hlt : i < n
    · obtain ⟨t, ht⟩ : ∃ t, T[i]? = some t := ⟨T[i]'(by rw [HL.out]; exact hlt), by rw [List.getElem?_eq_getElem]⟩
      obtain ⟨ad, m, cd, hr, hm, hmc, hcdm⟩ := Hat.out i t ht wr HB.out
      have ha1 := ha (by omega)
      subst ha1
      have HNx : Hid (sumD (T.take (i + 1)) = sumD (T.take i) + m) := hide (by rw [List.take_add_one, ht, sumD_append, ← hm]; simp [sumD])
      obtain ⟨z, hz⟩ : ∃ z, z = sumD (T.take i) := ⟨_, rfl⟩
      rw [← hz] at HNx HSm ⊢
      have hz2 := HSm.out
      have e1 : decide ((i : Int) < (n : Int)) = true := by simpa using hlt
      have i1 : (0 : Int) ≤ (i : Int) := by omega
      have i2 : (i : Int) < (n : Int) := by omega
      obtain ⟨f, ct, d⟩ := t
      simp only at hr
      clear ht ha hm hz HSm
      go_wp2_with (first
        | (refine wpList_load_part rfl 68 _ rfl g (off + i * 3) [.int .i64 f, .int .i64 ct, .slice ad m cd] rfl hr _ Tryd.underlying68 rfl (by kernel_rfl) ?_)
        | (refine wpList_store_all rfl 68 _ _ rfl wr.heap.size #[.int .i64 f, .int .i64 ct, .slice ad m cd] _ 68 rfl rfl (heap_last _ _) rfl (by kernel_rfl) (tok3_all _ _ _ _ _) ?_))
      intro w5 H5 HG5
      refine of_hid ?_
      have HB5 := hide (keepB (belowG (below_new wr (.cells #[.int .i64 0, .int .i64 0, .slice none 0 0] 68)) HG5.out (Nat.le_refl _) (by simp)) (Nat.le_refl _) HB.out)
      clear hr HG5 HB
      generalize wr.heap.size = B at *
      have s0 : w5.cell? ⟨B, 0, none⟩ = some (.int .i64 f) := blk_cell H5.out rfl
      have s1 : w5.cell? ⟨B, 1, none⟩ = some (.int .i64 ct) := blk_cell H5.out rfl
      have s2 : w5.cell? ⟨B, 2, none⟩ = some (.slice ad m cd) := blk_cell H5.out rfl
      by_cases hm5 : 5000 < m
      · have q1 : decide ((5000 : Int) < (m : Int)) = true := by simp; omega
        have q1' : decide (5000 < m) = true := by simp; omega
        go_wp2
        go_ret
        exact ⟨rfl, HB5.out⟩
      · have q1 : decide ((5000 : Int) < (m : Int)) = false := by simp; omega
        have q1' : decide (5000 < m) = false := by simp; omega
        have hw : IntKind.i64.wrap ((z : Int) + (m : Int)) = (z : Int) + (m : Int) := IntWalk.i64_in _ (by omega)
        by_cases hz20 : 20000 < z + m
        · have q2 : decide ((20000 : Int) < (z : Int) + (m : Int)) = true := by simp; omega
          go_wp2
          go_ret
          exact ⟨rfl, HB5.out⟩
        · have q2 : decide ((20000 : Int) < (z : Int) + (m : Int)) = false := by simp; omega
          go_wp2
          go_roundw
          case rel => exact ⟨i + 1, by go_num, by omega, by rw [HNx.out]; go_num, hide (by rw [HNx.out]; omega), HB5.out⟩
          case measure => simp [intOf]; omega
    · obtain rfl : i = n := by omega
      have hall : T.take i = T := List.take_of_length_le (by rw [HL.out]; exact Nat.le_refl _)
      rw [hall] at HSm ⊢
      have e1 : decide ((i : Int) < (i : Int)) = false := by simp
      have e1' : decide (i < i) = false := by simp
      obtain ⟨w2, hw2⟩ : ∃ w2, w2 = wr := ⟨_, rfl⟩
      subst hw2
      have HBy := hide (bytes_c w2 a i c T (HI.out w2 HB.out) (by have := HSm.out; omega))
      clear hall Hat ha hi hlt
      go_wp2_with fail
      (with_reducible refine Calls.mono HBy.out ?_)
      rintro e w3 ⟨bv, he, hcase, hb3⟩
      have HB3 := hide (keepB hb3 (Nat.le_refl _) HB.out)
      have HHe := hide he
      have HPl := hide (plain_big w3 a i c T (HI.out w3 HB3.out) HBg.out)
      obtain ⟨z, hz⟩ : ∃ z, z = bytesE T := ⟨_, rfl⟩
      by_cases hE : bytesE T = 0
      · have HE := hide hE
        have HRS : Hid (rbS T = bytesL T) := hide (by unfold rbS; rw [if_pos hE])
        have HRb : Hid (Dw.readR (bytesL T) = .ok T) := hide (readR_back T hE (fun t ht => by have := mem_sumD ht; have := HSm.out; omega))
        have hq := bytesL_len hE HSm.out
        have hbf : Buf w3 bv w2.heap.size (bytesL T) := by
          rcases hcase with ⟨h, _⟩ | ⟨_, h⟩
          · exact absurd hE h
          · exact h
        rw [hE] at he
        subst he
        obtain ⟨gb, capb, hbv, hgb, hdb⟩ : ∃ gb capb, bv = .slice (some ⟨gb, 0, none⟩) (bytesL T).length capb ∧ w2.heap.size ≤ gb ∧ Dst w3 gb (bytesL T).length capb (bytesL T) := by
          rcases hbf with ⟨_, h⟩ | ⟨gb, capb, h1, h2, h3⟩
          · have := congrArg List.length h
            unfold bytesL at this
            rw [List.length_append, List.length_nil] at this
            have := numL_pos T.length
            omega
          · exact ⟨gb, capb, h1, h2, h3⟩
        subst hbv
        obtain ⟨Y, hY⟩ : ∃ Y, Y = bytesL T := ⟨_, rfl⟩
        rw [← hY] at hq HRb HRS hdb
        have HYd := hide hY
        obtain ⟨q, hqd⟩ : ∃ q, q = Y.length := ⟨_, rfl⟩
        simp only [← hY, ← hqd]
        rw [← hqd] at hq hdb
        have HDb := hide hdb
        clear hE hz hcase hbf hdb hb3 hY hqd HHe HB HBy
        go_wp2_with fail
        (with_reducible refine Calls.mono HPl.out ?_)
        rintro e w4 ⟨vp, rfl, hop, hb4⟩
        obtain ⟨qa, qc, hvp, hiq⟩ := hop.is
        subst hvp
        have HRf := hide (refbytes_c w4 qa T.length qc T hiq (by have := HSm.out; omega))
        have HB4 := hide (keepB hb4 (Nat.le_refl _) HB3.out)
        have HDb4 := hide (HDb.out.below hb4 HDb.out.lt)
        clear hop hb4 hiq HPl HB3 HDb
        go_wp2_with fail
        (with_reducible refine Calls.mono HRf.out ?_)
        rintro e w5 ⟨he, hb5⟩
        rw [HRS.out, HE.out] at he
        subst he
        have HB5 := hide (keepB hb5 (Nat.le_refl _) HB4.out)
        have HDb5 := hide (HDb4.out.below hb5 HDb4.out.lt)
        clear hb5 HRf HB4 HDb4
        have HCv := hide (fun (u : World) (hu : Below w5.heap.size w5 u) => conv_src (cap := capb) ((HDb5.out.below hu HDb5.out.lt).src))
        obtain ⟨X, hX⟩ : ∃ X, X = strN Y := ⟨_, rfl⟩
        simp only [← hX]
        rw [← hX] at HCv
        clear hX
        have hXX : (X.toList != X.toList) = false := by simp
        have hXX2 : (X.toList == X.toList) = true := by simp
        have hcb : q ≤ capb := HDb5.out.fit
        have hcv := HCv.out w5 (Below.refl _ _)
        go_wp2_with fail
        have HRe := hide (read_toks w5 (some ⟨gb, 0, none⟩) q capb Y HDb5.out.src hcb hq)
        clear hcv
        (with_reducible refine Calls.mono HRe.out ?_)
        rintro e w6 ⟨v3, ev, rfl, hb6, hcase⟩
        obtain ⟨ps3, hp3, rfl, ho3⟩ : ∃ ps : List TV, ps.map (·.1) = T ∧ ev = .nilIface ∧ OwnT w6 w5.heap.size v3 ps := by
          rcases hcase with ⟨code, place, b, h, _⟩ | ⟨ps, h, h2, h3, _⟩
          · rw [HRb.out] at h; cases h
          · rw [HRb.out] at h; injection h with h; exact ⟨ps, h.symm, h2, h3⟩
        obtain ⟨a3, c3, rfl⟩ := slice_of ho3 hp3
        have hit := isT_of ho3 hp3
        have HB6 := hide (keepB hb6 (Nat.le_refl _) HB5.out)
        have HTl : Hid (T.length ≤ 3999999999999) := hide (by rw [HL.out]; exact HBg.out)
        have HPa := hide (plain_big w6 a3 T.length c3 T hit HTl.out)
        clear hcase ho3 hit hb6 HB5 HDb5 HRe
        go_wp2_with fail
        (with_reducible refine Calls.mono HPa.out ?_)
        rintro e w7 ⟨vp, rfl, hop, hb7⟩
        obtain ⟨qa1, qc1, hvp, hiq⟩ := hop.is
        subst hvp
        have HQ1 := hide hiq
        have HB7 := hide (keepB hb7 (Nat.le_refl _) HB6.out)
        have HPb := hide (plain_big w7 a i c T (HI.out w7 HB7.out) HBg.out)
        clear hop hb7 hiq HPa HB6
        go_wp2_with fail
        (with_reducible refine Calls.mono HPb.out ?_)
        rintro e w8 ⟨vp, rfl, hop, hb8⟩
        obtain ⟨qa2, qc2, hvp, hiq⟩ := hop.is
        subst hvp
        have HSa := hide (same_c w8 qa1 qa2 T.length qc1 qc2 T (HQ1.out.below hb8) hiq)
        have HB8 := hide (keepB hb8 (Nat.le_refl _) HB7.out)
        clear hop hb8 hiq HPb HB7 HQ1
        go_wp2_with fail
        (with_reducible refine Calls.mono HSa.out ?_)
        rintro e w9 ⟨rfl, hb9⟩
        have HB9 := hide (keepB hb9 (Nat.le_refl _) HB8.out)
        clear hb9 HSa HB8
        go_wp2
        go_ret
        exact ⟨rfl, HB9.out⟩
      · have HP : Hid (rbS T = [] ∧ bytesE T ≠ 0) := hide ⟨by unfold rbS; rw [if_neg hE], hE⟩
        obtain rfl : bv = .slice none 0 0 := by
          rcases hcase with ⟨_, h⟩ | ⟨h, _⟩
          · exact h
          · exact absurd h hE
        rw [← hz] at he
        subst he
        have Hz := hide hz
        have hz0 : z ≠ 0 := by rw [hz]; exact hE
        have q1 : (z != z) = false := by simp
        have q1' : (z == z) = true := by simp
        have q2 : (z != 0) = true := by simpa using hz0
        clear hE hz hz0 hcase hb3 HHe HB HBy
        go_wp2_with fail
        (with_reducible refine Calls.mono HPl.out ?_)
        rintro e w4 ⟨vp, rfl, hop, hb4⟩
        obtain ⟨qa, qc, hvp, hiq⟩ := hop.is
        subst hvp
        have HRf := hide (refbytes_c w4 qa T.length qc T hiq (by have := HSm.out; omega))
        have HB4 := hide (keepB hb4 (Nat.le_refl _) HB3.out)
        clear hop hb4 hiq HPl HB3
        go_wp2_with fail
        (with_reducible refine Calls.mono HRf.out ?_)
        rintro e w5 ⟨he, hb5⟩
        rw [HP.out.1, ← Hz.out] at he
        subst he
        have HB5 := hide (keepB hb5 (Nat.le_refl _) HB4.out)
        clear hb5 HRf HB4
        have hcv := conv_src (cap := 0) (SrcB.nil w5 none)
        have hs0 : strN ([] : List Nat) = ⟨#[]⟩ := rfl
        rw [hs0] at hcv
        simp only [hs0]
        clear hs0
        go_wp2
        go_ret
        exact ⟨rfl, HB5.out⟩
end Go.Proofs.YtkinpbhbgeiflaaDoor.DeltaBytesW
