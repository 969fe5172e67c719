/- DeltaReads' walk. -/
import Derived.Test.YtkinpbhbgeiflaaDoorQk
import Derived.Test.YtkinpbhbgeiflaaDoorEb
import Derived.Test.YtkinpbhbgeiflaaDoorDz
namespace Go.Proofs.YtkinpbhbgeiflaaDoor.DeltaReadsW
set_option linter.unusedVariables false
set_option linter.unusedSimpArgs false
set_option maxRecDepth 100000
open Go.ChangeShapes Go.WideShapes Go.ChangeAt Go.RowKit
open Go.Proofs.YtkinpbhbgeiflaaDoor.Wu Go.Proofs.YtkinpbhbgeiflaaDoor.Sm Go.Proofs.YtkinpbhbgeiflaaDoor.Sh Go.Proofs.YtkinpbhbgeiflaaDoor.Ba Go.Proofs.YtkinpbhbgeiflaaDoor.Bp Go.Proofs.YtkinpbhbgeiflaaDoor.Bq Go.Proofs.YtkinpbhbgeiflaaDoor.Bs Go.Proofs.YtkinpbhbgeiflaaDoor.Cm Go.Proofs.YtkinpbhbgeiflaaDoor.Rk Go.Proofs.YtkinpbhbgeiflaaDoor.Rw Go.Proofs.YtkinpbhbgeiflaaDoor.Er Go.Proofs.YtkinpbhbgeiflaaDoor.Eu Go.Proofs.YtkinpbhbgeiflaaDoor.Da Go.Proofs.YtkinpbhbgeiflaaDoor.Db Go.Proofs.YtkinpbhbgeiflaaDoor.Dk Go.Proofs.YtkinpbhbgeiflaaDoor.Dl Go.Proofs.YtkinpbhbgeiflaaDoor.Dm Go.Proofs.YtkinpbhbgeiflaaDoor.Do Go.Proofs.YtkinpbhbgeiflaaDoor.Dp
open Go.Proofs.YtkinpbhbgeiflaaDoor.Sn (Fst fst_keep)
open Go.Proofs.YtkinpbhbgeiflaaDoor.Sxa (Tbl tbl_keep)
open Go.Proofs.YtkinpbhbgeiflaaDoor.Du (bytesE bytesL sumD bytes_c encs encT)
open Go.Proofs.YtkinpbhbgeiflaaDoor.Dw (read_toks readR)
open Go.Proofs.YtkinpbhbgeiflaaDoor.Ea (readR_conv)
open Go.Proofs.YtkinpbhbgeiflaaDoor.Eb (refread_c)
open Go.Proofs.YtkinpbhbgeiflaaDoor.Dz (plain_big)
attribute [local go_sem] kUpon_value kUpon_skip kUpon_enter
theorem isT_of {u : World} {N : Nat} {a : Option Addr} {n c : Nat} {ps : List TV} {T : List Tok} (h : OwnT u N (.slice a n c) ps) (hp : ps.map (·.1) = T) : IsT u a n c T := by
  obtain ⟨a', c', e, -, hi⟩ := h.is
  injection e with e1 e2 e3
  rw [e1, e2, e3, ← hp]; exact hi
theorem slice_of {u : World} {N : Nat} {v : Value} {ps : List TV} {T : List Tok} (h : OwnT u N v ps) (hp : ps.map (·.1) = T) : ∃ a c, v = .slice a T.length c := by
  obtain ⟨a, c, e, -⟩ := h.is
  exact ⟨a, c, by rw [e, ← hp, List.length_map]⟩
theorem sumD_le : ∀ (ts : List Tok), (∀ t ∈ ts, Du.Tok.can t) → sumD ts ≤ (encs ts).length
  | [], _ => by simp [sumD]
  | t :: ts, h => by
    have ih := sumD_le ts (fun x hx => h x (List.mem_cons_of_mem _ hx))
    have h1 : t.d.length ≤ (encT t).length := by
      rcases h t (by simp) with hk | hb
      · obtain ⟨_, _, _, _, h5⟩ := Du.can_K hk
        omega
      · have hc := (Du.can_B hb).2.1
        have hk : ¬ t.isK = true := by simp [Tok.isK, hc]
        unfold encT
        rw [if_neg hk, List.length_append, List.length_append]
        omega
    simp only [sumD, encs, List.length_append]
    omega
theorem sum_of {L : List Nat} {ts : List Tok} (hE : bytesE ts = 0) (hL : bytesL ts = L) : sumD ts ≤ L.length := by
  have hl : ts.length ≤ 8192 := by
    by_cases h : 8192 < ts.length
    · unfold bytesE at hE; rw [if_pos h] at hE; cases hE
    · omega
  have hc : ∀ t ∈ ts, Du.Tok.can t := by
    unfold bytesE at hE
    rw [if_neg (by omega)] at hE
    split at hE
    · assumption
    · cases hE
  have := sumD_le ts hc
  rw [← hL]
  unfold bytesL
  rw [List.length_append]
  omega
theorem isT_none (u : World) : IsT u none 0 0 [] := ⟨rfl, Nat.le_refl _, by omega, 0, 0, fun h => absurd h (by omega), fun i t ht => by simp at ht⟩
theorem isR_none (u : World) : IsR u none 0 0 [] := ⟨rfl, Nat.le_refl _, by omega, 0, 0, fun h => absurd h (by omega), fun j v hv => by simp [rowR] at hv⟩
set_option maxHeartbeats 3200000 in
theorem walk_any (a : Option Addr) (m c : Nat) (L : List Nat) (w : World) (hs : SrcB w a m L) (hc : m ≤ c) (hcm : c ≤ 9223372036854775807) (hn : a = none → m = 0) (hT : Tbl w) (hF : Fst w) (he : Et w) :
    Calls Tryd.prog 7 #[.slice a m c] w fun e w' => e = .returned (.bool true) ∧ Below w.heap.size w w' := by
  have HT := hide (tells_c w hT hF)
  have HS := hide (fun (u : World) (hu : Below w.heap.size w u) => hs.below hu)
  have HEt := hide (fun (u : World) (hu : Below w.heap.size w u) => he.below hu (Nat.le_refl _))
  have hLl := hs.1
  have H8 := hide hs.2.1
  clear hs hT hF he
  by_cases h5 : 5000 < m
  · have d1 : decide ((5000 : Int) < (m : Int)) = true := by simp; omega
    have d1' : decide (5000 < m) = true := by simp; omega
    clear hLl HS HEt
    go_enter Tryd.func7, Tryd.ntmps7
    go_wp2_with fail
    refine HT.out.mono ?_
    rintro e w1 ⟨rfl, hb1⟩
    have HB1 := hide hb1
    clear hb1
    go_wp2
    go_ret
    exact ⟨rfl, HB1.out⟩
  have d1 : decide ((5000 : Int) < (m : Int)) = false := by simp; omega
  have d1' : decide (5000 < m) = false := by simp; omega
  have hm5 : m ≤ 5000 := by omega
  have HLl := hide hLl
  have HRr := hide (fun u : World => refread_c L u H8.out (by omega))
  obtain ⟨X, hX⟩ : ∃ X, X = strN L := ⟨_, rfl⟩
  rw [← hX] at HRr
  have HX := hide hX
  clear hLl h5 hX
  go_enter Tryd.func7, Tryd.ntmps7
  go_wp2_with fail
  refine HT.out.mono ?_
  rintro e w1 ⟨rfl, hb1⟩
  have HB1 := hide hb1
  clear hb1 HT
  have HRe := hide (read_toks w1 a m c L (HS.out w1 HB1.out) hc (by omega))
  go_wp2_with fail
  (with_reducible refine Calls.mono HRe.out ?_)
  rintro e w2 ⟨v, ev, rfl, hb2, hcase⟩
  have HB2 := hide (keepB hb2 (Nat.le_refl _) HB1.out)
  have HCase := hide hcase
  clear hb2 hcase HRe HB1
  have hcv := conv_src (cap := c) (HS.out w2 HB2.out)
  rw [← HX.out] at hcv
  go_wp2_with fail
  (with_reducible refine Calls.mono (HRr.out w2) ?_)
  rintro e w3 ⟨vr, code, at_, rfl, hb3, hcase3⟩
  have HB3 := hide (keepB hb3 (Nat.le_refl _) HB2.out)
  clear HRr hcv
  rcases HCase.out with ⟨code', place, b, hR, hne, rfl, rfl, hbf⟩ | ⟨ps, hR, rfl, hO, hps⟩
  · obtain ⟨hR3, hne3, rfl⟩ : readR L = .bad code at_ ∧ code ≠ 0 ∧ vr = .slice none 0 0 := by
      rcases hcase3 with ⟨ts, h, _⟩ | h
      · rw [hR] at h; cases h
      · exact h
    rw [hR] at hR3
    injection hR3 with e1 e2
    subst e1
    subst e2
    have HEr := hide (show IsErr w3 (.iface 99 (.pointer (some ⟨b, 0, none⟩))) code' place from .inr (.inr ⟨b, _, _, rfl, below_blk hb3 (heap_lt hbf) hbf⟩))
    have q1 : (code' != code') = false := by simp
    have q1' : (code' == code') = true := by simp
    have q2 : (code' != 0) = true := by simpa using hne
    have q3 : (place != place) = false := by simp
    have q3' : (place == place) = true := by simp
    have HNu := hide (number_c _ _ _ _ HEr.out (HEt.out w3 HB3.out))
    clear hb3 hcase3 hR hne hne3 hbf HCase HB2
    go_wp2_with fail
    (with_reducible refine Calls.mono HNu.out ?_)
    rintro e w4 ⟨rfl, hb4⟩
    have HB4 := hide (keepB hb4 (Nat.le_refl _) HB3.out)
    have HEr4 := hide (HEr.out.below hb4)
    have HPl := hide (plain_big w4 none 0 0 [] (isT_none w4) (by omega))
    clear hb4 HNu HEr HB3
    go_wp2_with fail
    (with_reducible refine Calls.mono HPl.out ?_)
    rintro e w5 ⟨vp, rfl, hop, hb5⟩
    obtain ⟨qa, qc, hvp, hiq⟩ := hop.is
    subst hvp
    have HB5 := hide (keepB hb5 (Nat.le_refl _) HB4.out)
    have HEr5 := hide (HEr4.out.below hb5)
    have HSa := hide (same_c w5 qa none ([] : List Tok).length qc 0 [] hiq (isR_none w5))
    simp only [List.length_nil] at HSa ⊢
    clear hop hb5 hiq HPl HB4 HEr4
    go_wp2_with fail
    (with_reducible refine Calls.mono HSa.out ?_)
    rintro e w6 ⟨rfl, hb6⟩
    have HB6 := hide (keepB hb6 (Nat.le_refl _) HB5.out)
    have HEr6 := hide (HEr5.out.below hb6)
    have HPc := hide (place_c _ _ _ _ HEr6.out (HEt.out w6 HB6.out))
    clear hb6 HSa HB5 HEr5
    go_wp2_with fail
    (with_reducible refine Calls.mono HPc.out ?_)
    rintro e w7 ⟨rfl, hb7⟩
    have HB7 := hide (keepB hb7 (Nat.le_refl _) HB6.out)
    clear hb7 HPc HB6
    go_wp2
    go_ret
    exact ⟨rfl, HB7.out⟩
  · obtain ⟨T, hTd⟩ : ∃ T, T = ps.map (·.1) := ⟨_, rfl⟩
    rw [← hTd] at hR
    have hp : ps.map (·.1) = T := hTd.symm
    obtain ⟨ts, hR3, hO3, rfl, rfl, -⟩ : ∃ ts, readR L = .ok ts ∧ OwnR w3 w2.heap.size vr ts ∧ code = 0 ∧ at_ = 0 ∧ ts.length ≤ 8192 := by
      rcases hcase3 with h | ⟨h, _⟩
      · exact h
      · rw [hR] at h; cases h
    rw [hR] at hR3
    injection hR3 with e1
    subst e1
    have hTl : T.length ≤ 8192 := by rw [hTd, List.length_map]; exact hps
    obtain ⟨hE, hLL⟩ := readR_conv H8.out hR
    have hsum := sum_of hE hLL
    have HE := hide hE
    have HLL := hide hLL
    have HSum : Hid (sumD T ≤ 800000) := hide (by have := HLl.out; omega)
    have HEr := hide (show IsErr w3 .nilIface 0 (-1) from .inl ⟨rfl, rfl, rfl⟩)
    have HNu := hide (number_c _ _ _ _ HEr.out (HEt.out w3 HB3.out))
    obtain ⟨a1, c1, rfl⟩ := slice_of hO hp
    obtain ⟨ra, rc, hvr, hir⟩ := hO3.is
    subst hvr
    have HI := hide (fun (u : World) (hu : Below w3.heap.size w3 u) => isT_of (hO.below (keepB hu (Nat.le_refl _) hb3)) hp)
    have HIr := hide (fun (u : World) (hu : Below w3.heap.size w3 u) => hir.below hu)
    have q1 : ((0 : Int) != 0) = false := rfl
    clear hb3 hcase3 hR hE hLL hsum HCase HB2 hTd hO hO3 hir hp
    go_wp2_with fail
    (with_reducible refine Calls.mono HNu.out ?_)
    rintro e w4 ⟨rfl, hb4⟩
    have HB4 := hide (keepB hb4 (Nat.le_refl _) HB3.out)
    have Hb4 := hide hb4
    have HPl := hide (plain_big w4 a1 T.length c1 T (HI.out w4 hb4) (by omega))
    clear hb4 HNu HEr
    go_wp2_with fail
    (with_reducible refine Calls.mono HPl.out ?_)
    rintro e w5 ⟨vp, rfl, hop, hb5⟩
    obtain ⟨qa, qc, hvp, hiq⟩ := hop.is
    subst hvp
    have HB5 := hide (keepB hb5 (Nat.le_refl _) HB4.out)
    have Hb5 := hide (keepB hb5 (Nat.le_refl _) Hb4.out)
    have HSa := hide (same_c w5 qa ra T.length qc rc T hiq (HIr.out w5 Hb5.out))
    clear hop hb5 hiq HPl HB4 Hb4
    go_wp2_with fail
    (with_reducible refine Calls.mono HSa.out ?_)
    rintro e w6 ⟨rfl, hb6⟩
    have HB6 := hide (keepB hb6 (Nat.le_refl _) HB5.out)
    have Hb6 := hide (keepB hb6 (Nat.le_refl _) Hb5.out)
    have HBy := hide (bytes_c w6 a1 T.length c1 T (HI.out w6 Hb6.out) HSum.out)
    clear hb6 HSa HB5 Hb5
    go_wp2_with fail
    (with_reducible refine Calls.mono HBy.out ?_)
    rintro e w7 ⟨bv, he, hcase, hb7⟩
    have hbf : Buf w7 bv w6.heap.size (bytesL T) := by
      rcases hcase with ⟨h, _⟩ | ⟨_, h⟩
      · exact absurd HE.out h
      · exact h
    rw [HE.out] at he
    subst he
    rw [HLL.out] at hbf
    obtain ⟨ba, bc, hbv, hsb, -⟩ := hbf.form
    subst hbv
    have HB7 := hide (keepB hb7 (Nat.le_refl _) HB6.out)
    have HCs := hide (fun (u : World) (hu : Below w7.heap.size w7 u) => (⟨conv_src (cap := bc) (hsb.below hu), conv_src (cap := c) (HS.out u (keepB hu (Nat.le_refl _) HB7.out))⟩ :
      Sem.run Tryd.prog (convert 22 9 (.slice ba L.length bc)) u = .ok (.string (strN L)) u ∧ Sem.run Tryd.prog (convert 22 9 (.slice a m c)) u = .ok (.string (strN L)) u))
    rw [← HX.out] at HCs
    obtain ⟨k1, k2⟩ := HCs.out w7 (Below.refl _ _)
    obtain ⟨ll, hll⟩ : ∃ ll, ll = L.length := ⟨_, rfl⟩
    rw [← hll] at k1
    simp only [← hll]
    have hXX : (X.toList == X.toList) = true := by simp
    clear hb7 hcase hbf hsb HBy HB6 Hb6 HCs hll
    go_wp2
    go_ret
    exact ⟨rfl, HB7.out⟩
end Go.Proofs.YtkinpbhbgeiflaaDoor.DeltaReadsW
