/- delta.Bytes. -/
import Derived.Test.YtkinpbhbgeiflaaDoorQj
namespace Go.Proofs.YtkinpbhbgeiflaaDoor.Du
set_option linter.unusedVariables false
set_option linter.unusedSimpArgs false
set_option maxRecDepth 100000
open Go.ChangeShapes Go.WideShapes Go.ChangeAt Go.RowKit
open Go.Proofs.YtkinpbhbgeiflaaDoor.Wu Go.Proofs.YtkinpbhbgeiflaaDoor.Sm Go.Proofs.YtkinpbhbgeiflaaDoor.Sh Go.Proofs.YtkinpbhbgeiflaaDoor.Ba Go.Proofs.YtkinpbhbgeiflaaDoor.Bp Go.Proofs.YtkinpbhbgeiflaaDoor.Bq Go.Proofs.YtkinpbhbgeiflaaDoor.Cm Go.Proofs.YtkinpbhbgeiflaaDoor.Kv Go.Proofs.YtkinpbhbgeiflaaDoor.Rk Go.Proofs.YtkinpbhbgeiflaaDoor.Rw Go.Proofs.YtkinpbhbgeiflaaDoor.Da Go.Proofs.YtkinpbhbgeiflaaDoor.Db Go.Proofs.YtkinpbhbgeiflaaDoor.Dc
/-- A token that can be written. -/
def Tok.can (t : Tok) : Prop := t.isK = true ∨ t.isB = true
instance (t : Tok) : Decidable (Tok.can t) := inferInstanceAs (Decidable (_ ∨ _))
/-- As bytes. -/
def encT (t : Tok) : List Nat := numL t.c.toNat ++ (if t.isK = true then numL t.f.toNat else numL t.d.length ++ t.d)
def encs : List Tok → List Nat
  | [] => []
  | t :: ts => encT t ++ encs ts
def sumD : List Tok → Nat
  | [] => 0
  | t :: ts => t.d.length + sumD ts
theorem encs_append (a b : List Tok) : encs (a ++ b) = encs a ++ encs b := by
  induction a with
  | nil => rfl
  | cons t ts ih => simp only [List.cons_append, encs, ih, List.append_assoc]
theorem encs_take {ts : List Tok} {i : Nat} {t : Tok} (h : ts[i]? = some t) : encs (ts.take (i + 1)) = encs (ts.take i) ++ encT t := by
  rw [List.take_add_one, h, encs_append]
  simp [encs]
theorem sumD_take : ∀ (ts : List Tok) (i : Nat), sumD (ts.take i) ≤ sumD ts
  | [], i => by simp
  | t :: ts, 0 => by simp [sumD]
  | t :: ts, i + 1 => by
    have := sumD_take ts i
    simp only [List.take_succ_cons, sumD]
    omega
theorem mem_sumD : ∀ {ts : List Tok} {t : Tok}, t ∈ ts → t.d.length ≤ sumD ts
  | x :: ts, t, h => by
    rcases List.mem_cons.1 h with rfl | h
    · simp only [sumD]; omega
    · have := mem_sumD h
      simp only [sumD]; omega
theorem can_K {t : Tok} (h : t.isK = true) : 1 ≤ t.c ∧ t.c ≤ 1099511627776 ∧ 0 ≤ t.f ∧ t.f ≤ 1099511627776 ∧ t.d.length = 0 := by simpa [Tok.isK] using h
theorem can_B {t : Tok} (h : t.isB = true) : t.f = 0 ∧ t.c = 0 ∧ 0 < t.d.length := by simpa [Tok.isB] using h
theorem encT_len {t : Tok} (h : Tok.can t) (hd : t.d.length ≤ 1000000) : (encT t).length ≤ 12 + t.d.length := by
  unfold encT
  rw [List.length_append]
  rcases h with h | h
  · obtain ⟨h1, h2, h3, h4, h5⟩ := can_K h
    rw [if_pos h]
    have := numL_six t.c.toNat (by omega)
    have := numL_six t.f.toNat (by omega)
    omega
  · obtain ⟨h1, h2, h3⟩ := can_B h
    have hk : ¬ t.isK = true := by simp [Tok.isK, h2]
    rw [if_neg hk, List.length_append]
    have := numL_six t.c.toNat (by omega)
    have := numL_six t.d.length (by omega)
    omega
theorem encs_len : ∀ {ts : List Tok}, (∀ t ∈ ts, Tok.can t) → (∀ t ∈ ts, t.d.length ≤ 1000000) → (encs ts).length ≤ 12 * ts.length + sumD ts
  | [], _, _ => by simp [encs]
  | t :: ts, h, hd => by
    have ih := encs_len (ts := ts) (fun x hx => h x (List.mem_cons_of_mem _ hx)) (fun x hx => hd x (List.mem_cons_of_mem _ hx))
    have := encT_len (h t (by simp)) (hd t (by simp))
    simp only [encs, sumD, List.length_append, List.length_cons]
    omega
/-- Its error. -/
def bytesE (ts : List Tok) : Int := if 8192 < ts.length then 2 else if ∀ t ∈ ts, Tok.can t then 0 else 80
def bytesL (ts : List Tok) : List Nat := numL ts.length ++ encs ts
def BytesP (w : World) (ts : List Tok) (e : Ending) (w' : World) : Prop :=
  ∃ v, e = .returned (.tuple #[v, .int .i64 (bytesE ts)]) ∧ (bytesE ts ≠ 0 ∧ v = .slice none 0 0 ∨ bytesE ts = 0 ∧ Buf w' v w.heap.size (bytesL ts)) ∧ Below w.heap.size w w'
theorem tok3_one (f c : Int) (ad : Option Addr) (m cd : Nat) : (#[Value.int .i64 f, .int .i64 c, .slice ad m cd] : Array Value).all (·.oneCell') = true :=
  all_oneCell_toArray (by intro v hv; simp only [List.mem_cons, List.not_mem_nil, or_false] at hv; rcases hv with rfl | rfl | rfl <;> rfl)
set_option maxHeartbeats 6400000 in
theorem bytes_c (w : World) (a : Option Addr) (n c : Nat) (ts : List Tok) (h : IsT w a n c ts) (hsum : sumD ts ≤ 800000) : Calls Tryd.prog 28 #[.slice a n c] w (BytesP w ts) := by
  obtain ⟨hl, hnc, hcm, g, off, ha, hat⟩ := h
  by_cases hbig : 8192 < n
  · have hE : bytesE ts = 2 := by unfold bytesE; rw [if_pos (by omega)]
    have HP : Hid (BytesP w ts (.returned (.tuple #[.slice none 0 0, .int .i64 2])) w) := hide ⟨_, by rw [hE], .inl ⟨by rw [hE]; decide, rfl⟩, Below.refl _ _⟩
    have d1 : decide ((8192 : Int) < (n : Int)) = true := by simp; omega
    have d1' : decide (8192 < n) = true := by simpa using hbig
    clear hat ha hE hl
    go_enter Tryd.func28, Tryd.ntmps28
    go_wp2
    go_ret2
    exact HP.out
  have d1 : decide ((8192 : Int) < (n : Int)) = false := by simp; omega
  have d1' : decide (8192 < n) = false := by simpa using hbig
  have Hat := hide (fun i t (ht : ts[i]? = some t) (u : World) (hu : Below w.heap.size w u) => by
    obtain ⟨ad, m, cd, c0, c1, c2, hs, hm, hcd, hnn⟩ := hat i t ht
    exact (⟨ad, m, cd, (fun j v hv => by
      match j, hv with
      | 0, hv => simp at hv; subst hv; exact keepC hu (Nat.le_refl _) c0
      | 1, hv => simp at hv; subst hv; rw [Nat.add_assoc]; exact keepC hu (Nat.le_refl _) c1
      | 2, hv => simp at hv; subst hv; rw [Nat.add_assoc]; exact keepC hu (Nat.le_refl _) c2), hs.1, hm, hcd⟩ : ∃ ad m cd, u.rangeAt g (off + i * 3) [.int .i64 t.f, .int .i64 t.c, .slice ad m cd] ∧ t.d.length = m ∧ m ≤ cd ∧ cd ≤ 9223372036854775807))
  have HSc := hide (fun i t (ht : ts[i]? = some t) (u : World) (hu : Below w.heap.size w u) (ad : Option Addr) (m cd : Nat) (hr : u.rangeAt g (off + i * 3) [.int .i64 t.f, .int .i64 t.c, .slice ad m cd]) => (show ∀ u', Below w.heap.size w u' → SrcB u' ad m t.d from fun u' hu' => by
    obtain ⟨ad', m', cd', c0, c1, c2, hs, r⟩ := hat i t ht
    have e1 := hr 2 _ rfl
    have e2 := keepC hu (Nat.le_refl _) c2
    rw [Nat.add_assoc, e2] at e1
    injection e1 with e1
    injection e1 with e3 e4 e5
    rw [← e3, ← e4]
    exact hs.below hu'))
  have HL := hide hl
  clear hat hl
  go_enter Tryd.func28, Tryd.ntmps28
  go_wp2_with fail
  go_loopw [14] (fun j wr => ∃ i, j = .int .i64 ((i : Nat) : Int) ∧ i ≤ n ∧ Hid (∀ t ∈ ts.take i, Tok.can t) ∧ Below w.heap.size w wr) (fun j _ => n - (intOf j).toNat)
  case atStart => exact ⟨0, rfl, Nat.zero_le _, hide (fun t ht => by simp at ht), Below.refl _ _⟩
  case round =>
    obtain ⟨i, rfl, hi, HCan, hB⟩ := hrel
    have HB := hide hB
    clear hB
    by_cases hlt : i < n
    · obtain ⟨t, ht⟩ : ∃ t, ts[i]? = some t := ⟨ts[i]'(by rw [HL.out]; exact hlt), by rw [List.getElem?_eq_getElem]⟩
      obtain ⟨ad, m, cd, hr, hm, -⟩ := Hat.out i t ht wr HB.out
      have ha1 := ha (by omega)
      subst ha1
      have HIb := hide (fun u : World => isB_c u t ad m cd hm)
      have HIk := hide (fun u : World => isK_c u t ad m cd hm)
      unfold tokV at HIb HIk
      have Ht := hide ht
      have e1 : decide ((i : Int) < (n : Int)) = true := by simpa using hlt
      have i1 : (0 : Int) ≤ (i : Int) := by omega
      have i2 : (i : Int) < (n : Int) := by omega
      clear ht ha hm
      go_wp2_with (first
        | (refine wpList_load_part rfl 68 _ rfl g (off + i * 3) [.int .i64 t.f, .int .i64 t.c, .slice ad m cd] rfl hr _ Tryd.underlying68 rfl (by kernel_rfl) ?_)
        | (refine wpList_store_all rfl 68 _ _ rfl wr.heap.size #[.int .i64 t.f, .int .i64 t.c, .slice ad m cd] _ 68 rfl rfl (heap_last _ _) rfl (by kernel_rfl) (tok3_one _ _ _ _ _) ?_))
      intro w5 H5 HG5
      refine of_hid ?_
      have HB5 := hide (keepB (belowG (below_new wr (.cells #[.int .i64 0, .int .i64 0, .slice none 0 0] 68)) HG5.out (Nat.le_refl _) (by simp)) (Nat.le_refl _) HB.out)
      clear hr HG5 HB
      generalize wr.heap.size = B at *
      have s0 : w5.cell? ⟨B, 0, none⟩ = some (.int .i64 t.f) := blk_cell H5.out rfl
      have s1 : w5.cell? ⟨B, 1, none⟩ = some (.int .i64 t.c) := blk_cell H5.out rfl
      have s2 : w5.cell? ⟨B, 2, none⟩ = some (.slice ad m cd) := blk_cell H5.out rfl
      go_wp2_with fail
      refine (HIk.out _).mono ?_
      rintro e w6 ⟨rfl, hb6⟩
      have H6 := hide (below_blk hb6 (heap_lt H5.out) H5.out)
      have HB6 := hide (keepB hb6 (Nat.le_refl _) HB5.out)
      clear hb6 s0 s1 s2 H5 HB5
      have s0 : w6.cell? ⟨B, 0, none⟩ = some (.int .i64 t.f) := blk_cell H6.out rfl
      have s1 : w6.cell? ⟨B, 1, none⟩ = some (.int .i64 t.c) := blk_cell H6.out rfl
      have s2 : w6.cell? ⟨B, 2, none⟩ = some (.slice ad m cd) := blk_cell H6.out rfl
      have HStep : Hid (Tok.can t → ∀ x ∈ ts.take (i + 1), Tok.can x) := hide (fun h x hx => by
        rw [List.take_add_one, Ht.out] at hx
        rcases List.mem_append.1 hx with hx | hx
        · exact HCan.out x hx
        · simp at hx; rw [hx]; exact h)
      cases hk : t.isK with
      | true =>
        have Hst := hide (HStep.out (.inl hk))
        go_wp2
        go_roundw
        case rel => exact ⟨i + 1, by go_num, by omega, Hst.out, HB6.out⟩
        case measure => simp [intOf]; omega
      | false =>
        go_wp2_with fail
        refine (HIb.out _).mono ?_
        rintro e w7 ⟨rfl, hb7⟩
        have HB7 := hide (keepB hb7 (Nat.le_refl _) HB6.out)
        clear hb7 s0 s1 s2 H6 HB6
        cases hb : t.isB with
        | true =>
          have Hst := hide (HStep.out (.inr hb))
          go_wp2
          go_roundw
          case rel => exact ⟨i + 1, by go_num, by omega, Hst.out, HB7.out⟩
          case measure => simp [intOf]; omega
        | false =>
          have hno : ¬ ∀ x ∈ ts, Tok.can x := fun h => by
            have := h t (List.mem_of_getElem? Ht.out)
            unfold Tok.can at this
            rw [hk, hb] at this
            simp at this
          have hE : bytesE ts = 80 := by unfold bytesE; rw [if_neg (by rw [HL.out]; omega), if_neg hno]
          have HP : Hid (BytesP w ts (.returned (.tuple #[.slice none 0 0, .int .i64 80])) w7) := hide ⟨_, by rw [hE], .inl ⟨by rw [hE]; decide, rfl⟩, HB7.out⟩
          clear hE hno HB7
          go_wp2
          go_ret2
          exact HP.out
    · obtain rfl : i = n := by omega
      have HAll : Hid (∀ t ∈ ts, Tok.can t) := hide (fun t ht => HCan.out t (by rw [List.take_of_length_le (by rw [HL.out]; exact Nat.le_refl _)]; exact ht))
      have e1 : decide ((i : Int) < (i : Int)) = false := by simp
      have e1' : decide (i < i) = false := by simp
      have HN0 := hide (num_k (.slice none 0 0) wr.heap.size [] i wr (.inl ⟨rfl, rfl⟩) (Nat.le_refl _) (by omega) (by simp))
      clear hi HCan
      go_wp2_with fail
      refine HN0.out.mono ?_
      rintro e w2 ⟨v0, rfl, hb0, ho0⟩
      obtain ⟨N, hN⟩ : ∃ N, N = wr.heap.size := ⟨_, rfl⟩
      rw [← hN] at hb0 ho0
      have hwN : w.heap.size ≤ N := by rw [hN]; exact HB.out.size
      have HB0 : Hid (∀ u, Below N wr u → Below w.heap.size w u) := hide (fun u hu => HB.out.trans (hu.mono hwN))
      have HB2 := hide ho0.below
      have HV2 := hide (show Buf w2 v0 N (numL i ++ encs (ts.take 0)) from by simpa [encs] using hb0)
      have Hn := hide HL.out
      have hN2 : N ≤ w2.heap.size := by rw [hN]; exact ho0.below.size
      clear hb0 ho0 HN0 hN HB
      generalize wr = wb at *
      obtain ⟨n, hn⟩ : ∃ n, n = i := ⟨_, rfl⟩
      subst hn
      go_wp2_with fail
      go_loopw [6, 32] (fun x j wr => ∃ i v, v = x ∧ j = .int .i64 ((i : Nat) : Int) ∧ i ≤ n ∧ Buf wr v N (numL n ++ encs (ts.take i)) ∧ N ≤ wr.heap.size ∧ Below N wb wr) (fun _ j _ => n - (intOf j).toNat)
      case atStart => exact ⟨0, _, rfl, rfl, Nat.zero_le _, HV2.out, hN2, HB2.out⟩
      case round =>
        clear HV2 HB2 hN2
        obtain ⟨i, v, rfl, rfl, hi, hV, hNr, hB⟩ := hrel
        have HV := hide hV
        have HB := hide hB
        clear hV hB
        by_cases hlt : i < n
        · obtain ⟨t, ht⟩ : ∃ t, ts[i]? = some t := ⟨ts[i]'(by rw [Hn.out]; exact hlt), by rw [List.getElem?_eq_getElem]⟩
          obtain ⟨ad, m, cd, hr, hm, hmc, hcd⟩ := Hat.out i t ht wr (HB0.out wr HB.out)
          have HSrc := hide (HSc.out i t ht wr (HB0.out wr HB.out) ad m cd hr)
          have ha1 := ha (by omega)
          subst ha1
          have HIk := hide (fun u : World => isK_c u t ad m cd hm)
          unfold tokV at HIk
          have Htk : Hid (numL n ++ encs (ts.take (i + 1)) = numL n ++ encs (ts.take i) ++ encT t) := hide (by rw [encs_take ht, List.append_assoc])
          have hcan := HAll.out t (List.mem_of_getElem? ht)
          have hdl : t.d.length ≤ 800000 := Nat.le_trans (mem_sumD (List.mem_of_getElem? ht)) hsum
          have hLl : (numL n ++ encs (ts.take i)).length ≤ 900000 := by
            rw [List.length_append]
            have h1 := encs_len (ts := ts.take i) (fun x hx => HAll.out x (List.mem_of_mem_take hx)) (fun x hx => Nat.le_trans (mem_sumD (List.mem_of_mem_take hx)) (by omega))
            have h2 := sumD_take ts i
            have h3 := numL_six n (by omega)
            have h4 : (ts.take i).length ≤ 8192 := by rw [List.length_take]; omega
            omega
          have hct : ∃ ct : Nat, t.c = (ct : Int) ∧ ct ≤ 1099511627776 := by
            rcases hcan with h | h
            · have := can_K h; exact ⟨t.c.toNat, by omega, by omega⟩
            · have := can_B h; exact ⟨0, by omega, by omega⟩
          obtain ⟨ct, hct, hctb⟩ := hct
          have e1 : decide ((i : Int) < (n : Int)) = true := by simpa using hlt
          have i1 : (0 : Int) ≤ (i : Int) := by omega
          have i2 : (i : Int) < (n : Int) := by omega
          have HEnc : Hid (encT t = numL ct ++ (if t.isK = true then numL t.f.toNat else numL t.d.length ++ t.d)) := hide (by unfold encT; rw [hct, Int.toNat_natCast])
          have HCan := hide hcan
          have Hmd := hide hm
          obtain ⟨L, hL⟩ : ∃ L, L = numL n ++ encs (ts.take i) := ⟨_, rfl⟩
          rw [← hL] at HV Htk hLl
          have hK1 : ∀ q, (numL q).length ≤ 6 ∨ 1099511627776 < q := fun q => by
            by_cases h : q ≤ 1099511627776
            · exact .inl (numL_six q h)
            · exact .inr (by omega)
          have hctl := hK1 ct
          clear ht ha hm hL hcan hK1
          obtain ⟨tf, tc, td⟩ := t
          simp only at hct hr hdl
          subst hct
          go_wp2_with (first
            | (refine wpList_load_part rfl 68 _ rfl g (off + i * 3) [.int .i64 tf, .int .i64 (ct : Int), .slice ad m cd] rfl hr _ Tryd.underlying68 rfl (by kernel_rfl) ?_)
            | (refine wpList_store_all rfl 68 _ _ rfl wr.heap.size #[.int .i64 tf, .int .i64 (ct : Int), .slice ad m cd] _ 68 rfl rfl (heap_last _ _) rfl (by kernel_rfl) (tok3_one _ _ _ _ _) ?_))
          intro w5 H5 HG5
          refine of_hid ?_
          have hb5 : Below wr.heap.size wr w5 := belowG (below_new wr (.cells #[.int .i64 0, .int .i64 0, .slice none 0 0] 68)) HG5.out (Nat.le_refl _) (by simp)
          have HB5 := hide (HB.out.trans (hb5.mono hNr))
          have HV5 := hide (buf_same HV.out hb5.size (fun g hg => hb5.block g (buf_own HV.out g hg).2))
          have hVB : v.ownBlock ≠ some wr.heap.size := fun e => by have := (buf_own HV.out _ e).2; omega
          have hN5 : N ≤ w5.heap.size := Nat.le_trans hNr hb5.size
          clear hr HG5 HB HV hb5
          generalize wr.heap.size = B at *
          have HN1 := hide (num_k v N L ct w5 HV5.out hN5 hctb (by omega))
          have s1 : w5.cell? ⟨B, 1, none⟩ = some (.int .i64 (ct : Int)) := blk_cell H5.out rfl
          go_wp2_with fail
          (with_reducible refine Calls.mono HN1.out ?_)
          rintro e w6 ⟨v1, rfl, hv1, ho1⟩
          have H6 := hide ((ho1.keep B (heap_lt H5.out) hVB).trans H5.out)
          have HB6 := hide (HB5.out.trans ho1.below)
          have hV1 : v1.ownBlock ≠ some B := fun e => by
            rcases ho1.own with h | h
            · exact hVB (by rw [← h]; exact e)
            · have h1 := h B e
              have := heap_lt H5.out
              omega
          have hN6 : N ≤ w6.heap.size := Nat.le_trans hN5 ho1.size
          have HV6 := hide hv1
          clear hv1 ho1 H5 HB5 HV5 HN1 s1
          have s0 : w6.cell? ⟨B, 0, none⟩ = some (.int .i64 tf) := blk_cell H6.out rfl
          have s1 : w6.cell? ⟨B, 1, none⟩ = some (.int .i64 (ct : Int)) := blk_cell H6.out rfl
          have s2 : w6.cell? ⟨B, 2, none⟩ = some (.slice ad m cd) := blk_cell H6.out rfl
          go_wp2_with fail
          (with_reducible refine Calls.mono (HIk.out _) ?_)
          rintro e w7 ⟨rfl, hb7⟩
          have H7 := hide (below_blk hb7 (heap_lt H6.out) H6.out)
          have HB7 := hide (HB6.out.trans (hb7.mono hN6))
          have HV7 := hide (buf_same HV6.out hb7.size (fun g hg => hb7.block g (buf_own HV6.out g hg).2))
          have hN7 : N ≤ w7.heap.size := Nat.le_trans hN6 hb7.size
          clear hb7 s0 s1 s2 H6 HB6 HV6 HIk
          have s0 : w7.cell? ⟨B, 0, none⟩ = some (.int .i64 tf) := blk_cell H7.out rfl
          have s2 : w7.cell? ⟨B, 2, none⟩ = some (.slice ad m cd) := blk_cell H7.out rfl
          cases hk : Tok.isK ⟨tf, (ct : Int), td⟩ with
          | true =>
            have hk2 := can_K hk
            try simp only at hk2
            obtain ⟨ft, rfl⟩ := Int.eq_ofNat_of_zero_le hk2.2.2.1
            have HFin : Hid (L ++ numL ct ++ numL ft = numL n ++ encs (ts.take (i + 1))) := hide (by
              rw [Htk.out, HEnc.out, hk, if_pos rfl, List.append_assoc]
              rfl)
            have HN2 := hide (num_k v1 N (L ++ numL ct) ft w7 HV7.out hN7 (by omega) (by rw [List.length_append]; omega))
            rw [HFin.out] at HN2
            clear HV7
            go_wp2_with fail
            (with_reducible refine Calls.mono HN2.out ?_)
            rintro e w8 ⟨v2, rfl, hv2, ho2⟩
            have HV8 := hide hv2
            have HB8 := hide (HB7.out.trans ho2.below)
            have hN8 : N ≤ w8.heap.size := Nat.le_trans hN7 ho2.size
            clear hv2 ho2 HN2 HB7 H7 s0 s2
            go_wp2
            go_roundw
            case rel => exact ⟨i + 1, _, rfl, by go_num, by omega, HV8.out, hN8, HB8.out⟩
            case measure => simp [intOf]; omega
          | false =>
            have hbB : 0 < td.length := by
              rcases HCan.out with h | h
              · rw [hk] at h; cases h
              · exact (can_B h).2.2
            have hmd := Hmd.out
            try simp only at hmd
            have HN2 := hide (num_k v1 N (L ++ numL ct) m w7 HV7.out hN7 (by omega) (by rw [List.length_append]; omega))
            have HFin : Hid (L ++ numL ct ++ numL m ++ td = numL n ++ encs (ts.take (i + 1))) := hide (by
              rw [Htk.out, HEnc.out, hk, if_neg (by simp)]
              simp only [hmd, List.append_assoc])
            have hml6 := numL_six m (by omega)
            have Hmd2 := hide hmd
            have hmb : m ≤ 800000 := by omega
            clear HV7 hmd
            go_wp2_with fail
            (with_reducible refine Calls.mono HN2.out ?_)
            rintro e w8 ⟨v2, rfl, hv2, ho2⟩
            have H8 := hide ((ho2.keep B (heap_lt H7.out) hV1).trans H7.out)
            have HV8 := hide hv2
            have HB8 := hide (HB7.out.trans ho2.below)
            have hN8 : N ≤ w8.heap.size := Nat.le_trans hN7 ho2.size
            clear hv2 ho2 HN2 HB7 H7 s0 s2
            have s2 : w8.cell? ⟨B, 2, none⟩ = some (.slice ad m cd) := blk_cell H8.out rfl
            have hm0 : 0 < m := by have := Hmd2.out; omega
            have HSr8 := hide (HSrc.out w8 (HB0.out w8 HB8.out))
            have han : Hid (ad = none → m = 0) := hide (fun h => by
              exfalso
              obtain ⟨hl, h8, b, o, hab, hcell⟩ := HSr8.out
              rw [hab hm0] at h
              cases h)
            go_wp2_with (refine Go.Proofs.YtkinpbhbgeiflaaDoor.Kv.wpList_append_own rfl _ _ rfl v2 N (L ++ numL ct ++ numL m) ad m cd td rfl rfl HV8.out hN8 HSr8.out han.out (by rw [List.length_append, List.length_append]; omega) (.inl hm0) ?_)
            intro v3 w9 HV9 HG9 HO9
            refine of_hid ?_
            have hfe : L ++ (numL ct ++ (numL m ++ td)) = numL n ++ encs (ts.take (i + 1)) := by rw [← HFin.out]; simp
            rw [hfe] at HV9
            clear hfe
            have HB9 := hide (HB8.out.grown HG9.out hN8 (fun q hq => (buf_own HV8.out q hq).1))
            have hN9 : N ≤ w9.heap.size := Nat.le_trans hN8 HG9.out.size
            clear HV8 HB8 HG9 HO9 H8 s2
            go_wp2
            go_roundw
            case rel => exact ⟨i + 1, _, rfl, by go_num, by omega, HV9.out, hN9, HB9.out⟩
            case measure => simp [intOf]; omega
        · obtain rfl : i = n := by omega
          have hE : bytesE ts = 0 := by unfold bytesE; rw [if_neg (by rw [Hn.out]; omega), if_pos HAll.out]
          have HP : Hid (BytesP w ts (.returned (.tuple #[v, .int .i64 0])) wr) := hide ⟨v, by rw [hE], .inr ⟨hE, by
            have h1 := HV.out
            rw [List.take_of_length_le (by rw [Hn.out]; exact Nat.le_refl _)] at h1
            unfold bytesL
            rw [Hn.out]
            rcases h1 with h | ⟨q, cap, h2, h3, hd⟩
            · exact .inl h
            · exact .inr ⟨q, cap, h2, Nat.le_trans hwN h3, hd⟩⟩, HB0.out wr HB.out⟩
          have e1 : decide ((i : Int) < (i : Int)) = false := by simp
          have e1' : decide (i < i) = false := by simp
          obtain ⟨va, vc, hv, -⟩ := HV.out.form
          subst hv
          clear HV HB hi hE
          go_wp2
          go_ret2
          exact HP.out
end Go.Proofs.YtkinpbhbgeiflaaDoor.Du
