/- Reference 07's Bytes. -/
import Derived.Test.YtkinpbhbgeiflaaDoorDu
import Derived.Test.YtkinpbhbgeiflaaDoorQk
import Derived.Test.YtkinpbhbgeiflaaDoorRn
namespace Go.Proofs.YtkinpbhbgeiflaaDoor.Dy
set_option linter.unusedVariables false
set_option linter.unusedSimpArgs false
set_option maxRecDepth 100000
open Go.ChangeShapes Go.WideShapes Go.ChangeAt Go.RowKit
open Go.Proofs.YtkinpbhbgeiflaaDoor.Wu Go.Proofs.YtkinpbhbgeiflaaDoor.Sm Go.Proofs.YtkinpbhbgeiflaaDoor.Sh Go.Proofs.YtkinpbhbgeiflaaDoor.Ba Go.Proofs.YtkinpbhbgeiflaaDoor.Bp Go.Proofs.YtkinpbhbgeiflaaDoor.Bq Go.Proofs.YtkinpbhbgeiflaaDoor.Bs Go.Proofs.YtkinpbhbgeiflaaDoor.Cm Go.Proofs.YtkinpbhbgeiflaaDoor.Rk Go.Proofs.YtkinpbhbgeiflaaDoor.Rw Go.Proofs.YtkinpbhbgeiflaaDoor.Rn Go.Proofs.YtkinpbhbgeiflaaDoor.Da Go.Proofs.YtkinpbhbgeiflaaDoor.Db Go.Proofs.YtkinpbhbgeiflaaDoor.Do Go.Proofs.YtkinpbhbgeiflaaDoor.Dp Go.Proofs.YtkinpbhbgeiflaaDoor.Du
attribute [local go_sem] kUpon_value kUpon_skip kUpon_enter
def rbS (ts : List Tok) : List Nat := if bytesE ts = 0 then bytesL ts else []
theorem rt3_all (f c : Int) (s : ByteArray) : (#[Value.int .i64 f, .int .i64 c, .string s] : Array Value).all (·.oneCell') = true :=
  all_oneCell_toArray (by intro v hv; simp only [List.mem_cons, List.not_mem_nil, or_false] at hv; rcases hv with rfl | rfl | rfl <;> rfl)
theorem not_can {f c : Int} {d : List Nat} (h : ¬ Tok.can ⟨f, c, d⟩) : (c < 0) ∨ (c = 0 ∧ f ≠ 0) ∨ (c = 0 ∧ f = 0 ∧ d = []) ∨ (0 < c ∧ 1099511627776 < c) ∨ (0 < c ∧ c ≤ 1099511627776 ∧ f < 0) ∨ (0 < c ∧ c ≤ 1099511627776 ∧ 0 ≤ f ∧ 1099511627776 < f) ∨ (0 < c ∧ c ≤ 1099511627776 ∧ 0 ≤ f ∧ f ≤ 1099511627776 ∧ d ≠ []) := by
  unfold Tok.can Tok.isK Tok.isB at h
  simp only [decide_eq_true_eq, not_or, not_and, List.length_eq_zero_iff] at h
  obtain ⟨h1, h2⟩ := h
  by_cases hd : d = []
  · subst hd
    have := h1
    by_cases a1 : 1 ≤ c <;> by_cases a2 : c ≤ 1099511627776 <;> by_cases a3 : 0 ≤ f <;> by_cases a4 : f ≤ 1099511627776 <;> by_cases a5 : f = 0 <;> simp_all <;> omega
  · have hd2 : 0 < d.length := List.length_pos_iff.2 hd
    by_cases a1 : 1 ≤ c <;> by_cases a2 : c ≤ 1099511627776 <;> by_cases a3 : 0 ≤ f <;> by_cases a4 : f ≤ 1099511627776 <;> by_cases a5 : f = 0 <;> by_cases a6 : c = 0 <;> simp_all <;> omega
theorem str_empty (L : List Nat) : (strN L).toList.isEmpty = decide (L = []) := by
  rw [ByteArray.toList_eq]
  cases L with
  | nil => rfl
  | cons x X => simp [strN, strOfNums]
theorem strN_ne {d : List Nat} (h : d ≠ []) : strN d ≠ ⟨#[]⟩ := by
  intro e
  have := congrArg ByteArray.size e
  rw [strN_size] at this
  exact h (List.length_eq_zero_iff.1 this)
set_option maxHeartbeats 3200000 in
theorem refbytes_c (w : World) (a : Option Addr) (n c : Nat) (ts : List Tok) (h : IsR w a n c ts) (hsum : sumD ts ≤ 800000) :
    Calls Tryd.prog 29 #[.slice a n c] w fun e w' => e = .returned (.tuple #[.string (strN (rbS ts)), .int .i64 (bytesE ts)]) ∧ Below w.heap.size w w' := by
  obtain ⟨hl, hnc, hcm, g, off, ha, hr⟩ := h
  by_cases hbig : 8192 < n
  · have hE : bytesE ts = 2 := by unfold bytesE; rw [if_pos (by omega)]
    have HP : Hid (rbS ts = [] ∧ bytesE ts = 2) := hide ⟨by unfold rbS; rw [if_neg (by rw [hE]; decide)], hE⟩
    have d1 : decide ((8192 : Int) < (n : Int)) = true := by simp; omega
    have d1' : decide (8192 < n) = true := by simpa using hbig
    clear hr ha hE hl
    go_enter Tryd.func29, Tryd.ntmps29
    go_wp2
    go_ret2
    exact ⟨by rw [HP.out.1, HP.out.2]; rfl, Below.refl _ _⟩
  have d1 : decide ((8192 : Int) < (n : Int)) = false := by simp; omega
  have d1' : decide (8192 < n) = false := by simpa using hbig
  have HR := hide (fun (u : World) (hu : Below w.heap.size w u) (i : Nat) (t : Tok) (ht : ts[i]? = some t) => by
    obtain ⟨r0, r1, r2⟩ := rowR_at ht
    have k0 := keepC hu (Nat.le_refl _) (hr _ _ r0)
    have k1 := keepC hu (Nat.le_refl _) (hr _ _ r1)
    have k2 := keepC hu (Nat.le_refl _) (hr _ _ r2)
    exact (fun j v hv => by
      match j, hv with
      | 0, hv => simp at hv; subst hv; exact k0
      | 1, hv => simp at hv; subst hv; rw [Nat.add_assoc]; exact k1
      | 2, hv => simp at hv; subst hv; rw [Nat.add_assoc]; exact k2 : u.rangeAt g (off + i * 3) [.int .i64 t.f, .int .i64 t.c, .string (strN t.d)]))
  have HL := hide hl
  have HSum := hide hsum
  have HNn := hide (fun u : World => refNum_mid n u (by omega))
  have hnn := numL_six n (by omega)
  clear hr hl hsum
  go_enter Tryd.func29, Tryd.ntmps29
  go_wp2_with fail
  refine (HNn.out _).mono ?_
  rintro e w1 ⟨rfl, hb1⟩
  have HB1 := hide hb1
  clear hb1 HNn
  have H0 : Hid (numL n = numL n ++ encs (ts.take 0)) := hide (by rw [List.take_zero]; simp [encs])
  go_wp2_with fail
  go_loopw [5, 4] (fun j v wr => ∃ i, j = .int .i64 ((i : Nat) : Int) ∧ i ≤ n ∧ v = .string (strN (numL n ++ encs (ts.take i))) ∧ Hid (∀ t ∈ ts.take i, Tok.can t) ∧ Below w.heap.size w wr) (fun j _ _ => n - (intOf j).toNat)
  case atStart => exact ⟨0, rfl, Nat.zero_le _, by rw [← H0.out], hide (fun t ht => by simp at ht), HB1.out⟩
  case round =>
    clear HB1 H0
    obtain ⟨i, rfl, hi, rfl, HCan, hB⟩ := hrel
    have HB := hide hB
    clear hB
    by_cases hlt : i < n
    · obtain ⟨t, ht⟩ : ∃ t, ts[i]? = some t := ⟨ts[i]'(by rw [HL.out]; exact hlt), by rw [List.getElem?_eq_getElem]⟩
      have hrg := HR.out wr HB.out i t ht
      have ha1 := ha (by omega)
      subst ha1
      have Htd : Hid (t.d.length ≤ 800000) := hide (Nat.le_trans (mem_sumD (List.mem_of_getElem? ht)) HSum.out)
      have HStep : Hid (Tok.can t → (∀ x ∈ ts.take (i + 1), Tok.can x) ∧ (numL n ++ encs (ts.take i)) ++ encT t = numL n ++ encs (ts.take (i + 1))) := hide (fun h => ⟨fun x hx => by
        rw [List.take_add_one, ht] at hx
        rcases List.mem_append.1 hx with hx | hx
        · exact HCan.out x hx
        · simp at hx; rw [hx]; exact h, by rw [encs_take ht, List.append_assoc]⟩)
      have HBad : Hid (¬ Tok.can t → rbS ts = [] ∧ bytesE ts = 80) := hide (fun h => by
        have e : bytesE ts = 80 := by
          unfold bytesE
          rw [if_neg (by rw [HL.out]; exact hbig), if_neg (fun h2 => h (h2 t (List.mem_of_getElem? ht)))]
        exact ⟨by unfold rbS; rw [if_neg (by rw [e]; decide)], e⟩)
      have hCl : (numL n ++ encs (ts.take i)).length ≤ 1200000 := by
        have h1 := encs_len HCan.out (fun t ht => by
          have := mem_sumD (List.mem_of_mem_take ht)
          have := HSum.out
          omega)
        have h2 := sumD_take ts i
        have h3 := HSum.out
        rw [List.length_take] at h1
        rw [List.length_append]
        omega
      obtain ⟨C, hC⟩ : ∃ C, C = numL n ++ encs (ts.take i) := ⟨_, rfl⟩
      rw [← hC] at HStep hCl ⊢
      obtain ⟨f, ct, d⟩ := t
      simp only at hrg Htd
      have e1 : decide ((i : Int) < (n : Int)) = true := by simpa using hlt
      have i1 : (0 : Int) ≤ (i : Int) := by omega
      have i2 : (i : Int) < (n : Int) := by omega
      have Hlt := hide hlt
      have HHi := hide hi
      have hin : i ≤ 8192 := by omega
      clear hC ht ha HCan HR hbig hlt hi
      go_wp2_with (first
        | (refine wpList_load_part rfl 131 _ rfl g (off + i * 3) [.int .i64 f, .int .i64 ct, .string (strN d)] rfl hrg _ Tryd.underlying131 rfl (by kernel_rfl) ?_)
        | (refine wpList_store_all rfl 131 _ _ rfl wr.heap.size #[.int .i64 f, .int .i64 ct, .string (strN d)] _ 131 rfl rfl (heap_last _ _) rfl (by kernel_rfl) (rt3_all _ _ _) ?_))
      intro w5 H5 HG5
      refine of_hid ?_
      have HB5 := hide (keepB (belowG (below_new wr (.cells #[.int .i64 0, .int .i64 0, .string ByteArray.empty] 131)) HG5.out (Nat.le_refl _) (by simp)) (Nat.le_refl _) HB.out)
      clear hrg HG5 HB
      generalize wr.heap.size = B at *
      have s0 : w5.cell? ⟨B, 0, none⟩ = some (.int .i64 f) := blk_cell H5.out rfl
      have s1 : w5.cell? ⟨B, 1, none⟩ = some (.int .i64 ct) := blk_cell H5.out rfl
      have s2 : w5.cell? ⟨B, 2, none⟩ = some (.string (strN d)) := blk_cell H5.out rfl
      by_cases hcan : Tok.can ⟨f, ct, d⟩
      · obtain ⟨hcan2, hst⟩ := HStep.out hcan
        have HC2 := hide hcan2
        have HSt := hide hst
        clear HStep HBad hcan2 hst
        by_cases hk : (⟨f, ct, d⟩ : Tok).isK = true
        · obtain ⟨h1, h2, h3, h4, h5⟩ := can_K hk
          simp only at h1 h2 h3 h4 h5
          have hen : encT ⟨f, ct, d⟩ = numL ct.toNat ++ numL f.toNat := by unfold encT; rw [if_pos hk]
          rw [hen] at HSt
          obtain ⟨cn, rfl⟩ := Int.eq_ofNat_of_zero_le (show 0 ≤ ct by omega)
          obtain ⟨fn, rfl⟩ := Int.eq_ofNat_of_zero_le h3
          simp only [Int.toNat_natCast] at HSt
          obtain rfl : d = [] := List.length_eq_zero_iff.1 h5
          have HN1 := hide (fun u : World => refNum_mid cn u (by omega))
          have HN2 := hide (fun u : World => refNum_mid fn u (by omega))
          have n1 := numL_six cn (by omega)
          have n2 := numL_six fn (by omega)
          have ad1 := add_strN (numL cn) (numL fn) (by omega) (by omega)
          have ad2 := add_strN C (numL cn ++ numL fn) (by omega) (by rw [List.length_append]; omega)
          have q1 : decide ((0 : Int) < (cn : Int)) = true := by simp; omega
          have q1' : decide (0 < cn) = true := by simp; omega
          have q2 : decide ((cn : Int) ≤ 1099511627776) = true := by simp; omega
          have q2' : decide (cn ≤ 1099511627776) = true := by simp; omega
          have q3 : decide ((0 : Int) ≤ (fn : Int)) = true := by simp
          have q4 : decide ((fn : Int) ≤ 1099511627776) = true := by simp; omega
          have q4' : decide (fn ≤ 1099511627776) = true := by simp; omega
          have q5 : ((cn : Int) == 0) = false := by simp; omega
          have q5' : (cn == 0) = false := by simp; omega
          have hs0 : strN ([] : List Nat) = ⟨#[]⟩ := rfl
          rw [hs0] at s2 H5
          clear hk hen h1 h2 h3 h4 h5 hs0 n1 n2 hcan
          go_wp2_with fail
          refine wp_region_keep (fun u => u.heap[B]? = some (.cells #[.int .i64 (fn : Int), .int .i64 (cn : Int), .string ⟨#[]⟩] 131 (0, 0)) ∧ Below w.heap.size w u) (by kernel_rfl) (by kernel_rfl) ⟨H5.out, HB5.out.drew⟩ ?_
          repeat (first
            | (refine keep_step (v := ?_) (by rfl) (fun u K hS hK => ?_) ?_
               rotate_left
               · have s0 : u.cell? ⟨B, 0, none⟩ = _ := blk_cell hS.1 rfl
                 have s1 : u.cell? ⟨B, 1, none⟩ = _ := blk_cell hS.1 rfl
                 have s2 : u.cell? ⟨B, 2, none⟩ = _ := blk_cell hS.1 rfl
                 (go_simp; first
                   | (go_at_call 62; first
                      | (with_reducible refine Calls.mono (HN1.out _) ?_)
                      | (with_reducible refine Calls.mono (HN2.out _) ?_)
                      rintro e u2 ⟨rfl, hu⟩; exact hK _ ⟨below_blk hu (heap_lt hS.1) hS.1, keepB hu (Nat.le_refl _) hS.2⟩)
                   | (with_reducible exact hK _ hS))
               simp only [Act.put, List.setIfInBounds_toArray, List.set_cons_zero, List.set_cons_succ]))
          refine keep_nil (fun w6 hS6 => ?_)
          have HB6 := hide hS6.2
          clear hS6 H5 HB5 HN1 HN2 ad1 ad2 s0 s1 s2
          rw [HSt.out]
          go_wp2
          go_roundw
          case rel => exact ⟨i + 1, by go_num, Hlt.out, rfl, HC2, HB6.out⟩
          case measure => have := Hlt.out; simp [intOf]; omega
        · have hb : (⟨f, ct, d⟩ : Tok).isB = true := by rcases hcan with h | h; exact absurd h hk; exact h
          obtain ⟨h1, h2, h3⟩ := can_B hb
          simp only at h1 h2 h3
          subst h1
          subst h2
          have hen : encT ⟨0, 0, d⟩ = numL 0 ++ (numL d.length ++ d) := by unfold encT; rw [if_neg hk]; rfl
          rw [hen] at HSt
          have hdl := Htd.out
          have HN1 := hide (fun u : World => refNum_mid 0 u (by omega))
          simp only [Int.natCast_zero, Int.cast_ofNat_Int] at HN1
          have HN2 := hide (fun u : World => refNum_mid d.length u (by omega))
          have n1 := numL_six 0 (by omega)
          have n2 := numL_six d.length (by omega)
          have ad1 := add_strN (numL 0) (numL d.length) (by omega) (by omega)
          have ad2 := add_strN (numL 0 ++ numL d.length) d (by rw [List.length_append]; omega) (by omega)
          have ad3 := add_strN C (numL 0 ++ (numL d.length ++ d)) (by omega) (by simp only [List.length_append]; omega)
          have hne : (strN d).toList.isEmpty = false := by rw [str_empty]; simpa using (fun e => by rw [e] at h3; simp at h3 : ¬ d = [])
          have hsz : (strN d).size = d.length := strN_size d
          clear hk hen hb h3 n1 n2 hcan
          go_wp2_with fail
          refine wp_region_keep (fun u => u.heap[B]? = some (.cells #[.int .i64 0, .int .i64 0, .string (strN d)] 131 (0, 0)) ∧ Below w.heap.size w u) (by kernel_rfl) (by kernel_rfl) ⟨H5.out, HB5.out.drew⟩ ?_
          repeat (first
            | (refine keep_step (v := ?_) (by rfl) (fun u K hS hK => ?_) ?_
               rotate_left
               · have s0 : u.cell? ⟨B, 0, none⟩ = _ := blk_cell hS.1 rfl
                 have s1 : u.cell? ⟨B, 1, none⟩ = _ := blk_cell hS.1 rfl
                 have s2 : u.cell? ⟨B, 2, none⟩ = _ := blk_cell hS.1 rfl
                 (go_simp; first
                   | (go_at_call 62; first
                      | (with_reducible refine Calls.mono (HN1.out _) ?_)
                      | (with_reducible refine Calls.mono (HN2.out _) ?_)
                      rintro e u2 ⟨rfl, hu⟩; exact hK _ ⟨below_blk hu (heap_lt hS.1) hS.1, keepB hu (Nat.le_refl _) hS.2⟩)
                   | (with_reducible exact hK _ hS))
               simp only [Act.put, List.setIfInBounds_toArray, List.set_cons_zero, List.set_cons_succ]))
          refine keep_nil (fun w6 hS6 => ?_)
          have HB6 := hide hS6.2
          clear hS6 H5 HB5 HN1 HN2 ad1 ad2 ad3 s0 s1 s2
          rw [HSt.out]
          go_wp2
          go_roundw
          case rel => exact ⟨i + 1, by go_num, Hlt.out, rfl, HC2, HB6.out⟩
          case measure => have := Hlt.out; simp [intOf]; omega
      · have HP := hide (HBad.out hcan)
        have hno := not_can hcan
        clear HStep HBad hcan Htd
        rcases hno with h1 | ⟨h1, h2⟩ | ⟨h1, h2, h3⟩ | ⟨h1, h2⟩ | ⟨h1, h2, h3⟩ | ⟨h1, h2, h3, h4⟩ | ⟨h1, h2, h3, h4, h5⟩
        · have q1 : decide ((0 : Int) < ct) = false := by simp; omega
          have q5 : (ct == 0) = false := by simp; omega
          go_wp2
          go_ret2
          exact ⟨by rw [HP.out.1, HP.out.2]; rfl, HB5.out⟩
        · subst h1
          have q6 : (f == 0) = false := by simpa using h2
          go_wp2
          go_ret2
          exact ⟨by rw [HP.out.1, HP.out.2]; rfl, HB5.out⟩
        · subst h1
          subst h2
          subst h3
          have hs0 : strN ([] : List Nat) = ⟨#[]⟩ := rfl
          rw [hs0] at s2 H5
          clear hs0
          go_wp2
          go_ret2
          exact ⟨by rw [HP.out.1, HP.out.2]; rfl, HB5.out⟩
        · have q1 : decide ((0 : Int) < ct) = true := by simpa using h1
          have q2 : decide (ct ≤ 1099511627776) = false := by simp; omega
          have q5 : (ct == 0) = false := by simp; omega
          go_wp2
          go_ret2
          exact ⟨by rw [HP.out.1, HP.out.2]; rfl, HB5.out⟩
        · have q1 : decide ((0 : Int) < ct) = true := by simpa using h1
          have q2 : decide (ct ≤ 1099511627776) = true := by simpa using h2
          have q3 : decide (0 ≤ f) = false := by simp; omega
          have q5 : (ct == 0) = false := by simp; omega
          go_wp2
          go_ret2
          exact ⟨by rw [HP.out.1, HP.out.2]; rfl, HB5.out⟩
        · have q1 : decide ((0 : Int) < ct) = true := by simpa using h1
          have q2 : decide (ct ≤ 1099511627776) = true := by simpa using h2
          have q3 : decide (0 ≤ f) = true := by simpa using h3
          have q4 : decide (f ≤ 1099511627776) = false := by simp; omega
          have q5 : (ct == 0) = false := by simp; omega
          go_wp2
          go_ret2
          exact ⟨by rw [HP.out.1, HP.out.2]; rfl, HB5.out⟩
        · have q1 : decide ((0 : Int) < ct) = true := by simpa using h1
          have q2 : decide (ct ≤ 1099511627776) = true := by simpa using h2
          have q3 : decide (0 ≤ f) = true := by simpa using h3
          have q4 : decide (f ≤ 1099511627776) = true := by simpa using h4
          have q5 : (ct == 0) = false := by simp; omega
          have hne : (strN d).toList.isEmpty = false := by rw [str_empty]; simpa using h5
          go_wp2
          go_ret2
          exact ⟨by rw [HP.out.1, HP.out.2]; rfl, HB5.out⟩
    · obtain rfl : i = n := by omega
      have hE : bytesE ts = 0 := by
        unfold bytesE
        rw [if_neg (by rw [HL.out]; exact hbig), if_pos]
        have := HCan.out
        rwa [List.take_of_length_le (by rw [HL.out]; exact Nat.le_refl _)] at this
      have HP : Hid (rbS ts = numL i ++ encs (ts.take i) ∧ bytesE ts = 0) := hide ⟨by unfold rbS bytesL; rw [if_pos hE, HL.out, List.take_of_length_le (by rw [HL.out]; exact Nat.le_refl _)], hE⟩
      have e1 : decide ((i : Int) < (i : Int)) = false := by simp
      clear HCan hi ha hE
      go_wp2
      go_ret2
      exact ⟨by rw [HP.out.1, HP.out.2]; rfl, HB.out⟩
end Go.Proofs.YtkinpbhbgeiflaaDoor.Dy
