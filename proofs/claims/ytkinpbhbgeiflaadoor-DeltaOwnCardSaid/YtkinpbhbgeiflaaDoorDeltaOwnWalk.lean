/- DeltaOwn's walk. -/
import Derived.Test.YtkinpbhbgeiflaaDoorQk
import Derived.Test.YtkinpbhbgeiflaaDoorDx
namespace Go.Proofs.YtkinpbhbgeiflaaDoor.DeltaOwnW
set_option linter.unusedVariables false
set_option linter.unusedSimpArgs false
set_option maxRecDepth 100000
open Go.ChangeShapes Go.WideShapes Go.ChangeAt Go.RowKit
open Go.Proofs.YtkinpbhbgeiflaaDoor.Wu Go.Proofs.YtkinpbhbgeiflaaDoor.Sm Go.Proofs.YtkinpbhbgeiflaaDoor.Sh Go.Proofs.YtkinpbhbgeiflaaDoor.Ba Go.Proofs.YtkinpbhbgeiflaaDoor.Bp Go.Proofs.YtkinpbhbgeiflaaDoor.Bq Go.Proofs.YtkinpbhbgeiflaaDoor.Bs Go.Proofs.YtkinpbhbgeiflaaDoor.Cm Go.Proofs.YtkinpbhbgeiflaaDoor.Ka Go.Proofs.YtkinpbhbgeiflaaDoor.Kb Go.Proofs.YtkinpbhbgeiflaaDoor.Kc Go.Proofs.YtkinpbhbgeiflaaDoor.Kd Go.Proofs.YtkinpbhbgeiflaaDoor.Ke Go.Proofs.YtkinpbhbgeiflaaDoor.Kf Go.Proofs.YtkinpbhbgeiflaaDoor.Rk Go.Proofs.YtkinpbhbgeiflaaDoor.Rg Go.Proofs.YtkinpbhbgeiflaaDoor.Rx Go.Proofs.YtkinpbhbgeiflaaDoor.Rw Go.Proofs.YtkinpbhbgeiflaaDoor.Kh Go.Proofs.YtkinpbhbgeiflaaDoor.Ki Go.Proofs.YtkinpbhbgeiflaaDoor.Kj Go.Proofs.YtkinpbhbgeiflaaDoor.Kx Go.Proofs.YtkinpbhbgeiflaaDoor.Kl Go.Proofs.YtkinpbhbgeiflaaDoor.Da Go.Proofs.YtkinpbhbgeiflaaDoor.Db Go.Proofs.YtkinpbhbgeiflaaDoor.Dk Go.Proofs.YtkinpbhbgeiflaaDoor.Dl Go.Proofs.YtkinpbhbgeiflaaDoor.Dm Go.Proofs.YtkinpbhbgeiflaaDoor.Do Go.Proofs.YtkinpbhbgeiflaaDoor.Dp
open Go.Proofs.YtkinpbhbgeiflaaDoor.Sn (Fst fst_keep)
open Go.Proofs.YtkinpbhbgeiflaaDoor.Sxa (Tbl tbl_keep)
open Go.Proofs.YtkinpbhbgeiflaaDoor.Du (bytesE bytesL sumD bytes_c)
open Go.Proofs.YtkinpbhbgeiflaaDoor.Dw (read_toks own_grown)
open Go.Proofs.YtkinpbhbgeiflaaDoor.Dx (readR_back)
attribute [local go_sem] kUpon_value kUpon_skip kUpon_enter
theorem dst_put {w : World} {g n cap : Nat} {L : List Nat} (hd : Dst w g n cap L) {i x : Nat} (hi : i < n) (hx : x < 256) : Dst (w.setCell ⟨g, i, none⟩ (.int .u8 (x : Int))) g n cap (L.set i x) := by
  have hth : w.there g i 1 := fun j hj => by
    obtain rfl : j = 0 := by omega
    exact ⟨by rw [Nat.add_zero, hd.cell hi]; rfl, hd.free _⟩
  have h1 := World.rangeAt_setCells_same w g i [.int .u8 (x : Int)] (by simpa using hth)
  have e : w.setCells g i [.int .u8 (x : Int)] = w.setCell ⟨g, i, none⟩ (.int .u8 (x : Int)) := rfl
  have hfr : ∀ o, (w.setCell ⟨g, i, none⟩ (.int .u8 (x : Int))).frozen? ⟨g, o, none⟩ = false := fun o => by rw [← e, World.frozen?_setCells]; exact hd.free o
  refine ⟨by rw [List.length_set, hd.len], ?_, hd.fit, hd.max, by simpa [World.setCell] using hd.lt, fun j v hv => ?_, fun j hj => ?_, hfr⟩
  · intro z hz
    rcases List.mem_or_eq_of_mem_set hz with h | h
    · exact hd.all z h
    · omega
  · have hj : j < (L.set i x).length := by
      have := (List.getElem?_eq_some_iff.1 hv).1
      simpa [b8] using this
    rw [List.length_set, hd.len] at hj
    by_cases hij : j = i
    · subst hij
      have h2 := h1 0 _ rfl
      rw [e, Nat.add_zero] at h2
      rw [Nat.zero_add, h2, ← hv]
      unfold b8
      simp [List.getElem?_map, hd.len, hj]
    · have hrow : w.rangeAt g j [v] := fun t u hu => by
        have ht : t = 0 := by
          have := (List.getElem?_eq_some_iff.1 hu).1
          simp only [List.length_cons, List.length_nil] at this
          omega
        subst ht
        obtain rfl : v = u := by simpa using hu
        rw [Nat.add_zero]
        have := hd.cells j v (by
          rw [← hv]
          unfold b8
          rw [List.getElem?_map, List.getElem?_map, List.getElem?_set_ne (by omega)])
        rwa [Nat.zero_add] at this
      have h2 := World.rangeAt_setCells_apart hrow g i [.int .u8 (x : Int)] (by right; simp only [List.length_cons, List.length_nil]; omega)
      rw [e] at h2
      have := h2 0 v rfl
      rwa [Nat.add_zero, show j = 0 + j by omega] at this
  · have h2 := World.there_setCells (b' := g) (o' := n) (n := cap - n) hd.spare g i [.int .u8 (x : Int)] j hj
    exact h2
/-- One token, cell by cell. -/
theorem one_cells {w : World} {N : Nat} {v : Value} {ps : List TV} {t0 : Tok} (h : OwnT w N v ps) (hp : ps.map (·.1) = [t0]) : ∃ g cap a m c, v = .slice (some ⟨g, 0, none⟩) 1 cap ∧ w.cell? ⟨g, 0, none⟩ = some (.int .i64 t0.f) ∧ w.cell? ⟨g, 1, none⟩ = some (.int .i64 t0.c) ∧ w.cell? ⟨g, 2, none⟩ = some (.slice a m c) ∧ SrcB w a m t0.d := by
  match ps, hp with
  | [(t, d)], hp =>
    simp only [List.map_cons, List.map_nil, List.cons.injEq, and_true] at hp
    subst hp
    rcases h.form with ⟨_, h0⟩ | ⟨g, cap, hv, -, -, -, -, hr, -⟩
    · cases h0
    obtain ⟨a, c, hd, hs, -⟩ := (h.buf (t, d) (by simp)).form
    have c0 := hr 0 _ rfl
    have c1 := hr 1 _ rfl
    have c2 := hr 2 _ rfl
    simp only at hd
    subst hd
    exact ⟨g, cap, a, _, c, hv, c0, c1, c2, hs⟩
def oneT (D : List Nat) : List Tok := if D.length = 0 then [] else [⟨0, 0, D⟩]
theorem fd_no (s k l : Nat) (P : List Nat) : fdOf s k l [] P = none := rfl
theorem mkT_raw {fd : List Nat → Option Nat} (hfd : ∀ P, fd P = none) (s : Nat) : ∀ (f : Nat) (R X : List Nat), R.length ≤ f → X.length ≠ 0 → mkT fd s f R [⟨0, 0, X⟩] = [⟨0, 0, X ++ R⟩]
  | 0, R, X, h, hX => by
    obtain rfl : R = [] := List.length_eq_zero_iff.1 (by omega)
    rw [mkT_nil, List.append_nil]
  | f + 1, R, X, h, hX => by
    cases R with
    | nil => rw [mkT_nil, List.append_nil]
    | cons y R =>
      rw [mkT_none (by simp) (hfd _)]
      have e : joinT [(⟨0, 0, X⟩ : Tok)] ⟨0, 0, (y :: R).take 1⟩ = [⟨0, 0, X ++ [y]⟩] := by
        have := joinT_snoc [] (⟨0, 0, X⟩ : Tok) ⟨0, 0, [y]⟩
        have hf : fuse (⟨0, 0, X⟩ : Tok) ⟨0, 0, [y]⟩ = some ⟨0, 0, X ++ [y]⟩ := by
          unfold fuse
          rw [if_pos]
          constructor
          · simp [Tok.isB]; omega
          · simp [Tok.isB]
        rw [hf] at this
        exact this
      rw [e]
      have := mkT_raw hfd s f R (X ++ [y]) (by simpa using h) (by simp)
      rw [List.drop_one, List.tail_cons, this, List.append_assoc]
      rfl
theorem mkA_raw {fd : List Nat → Option Nat} (hfd : ∀ P, fd P = none) (s : Nat) (D : List Nat) : mkA fd s D = oneT D := by
  unfold mkA oneT
  cases D with
  | nil => rw [mkT_nil]; rfl
  | cons y R =>
    rw [if_neg (by simp), List.length_cons, mkT_none (by simp) (hfd _)]
    show mkT fd s R.length R [⟨0, 0, [y]⟩] = _
    rw [mkT_raw hfd s R.length R [y] (Nat.le_refl _) (by simp)]
    rfl
theorem one_len (D : List Nat) : (oneT D).length ≤ 1 := by
  unfold oneT; split <;> simp
theorem one_can (D : List Nat) : bytesE (oneT D) = 0 := by
  unfold bytesE
  rw [if_neg (by have := one_len D; omega), if_pos]
  intro t ht
  unfold oneT at ht
  split at ht
  · cases ht
  · rw [List.mem_singleton.1 ht]
    right
    simp [Tok.isB]
    rename_i h
    exact Nat.pos_of_ne_zero h
theorem one_sum (D : List Nat) : sumD (oneT D) = D.length := by
  unfold oneT
  split
  · rename_i h; rw [h]; rfl
  · simp [sumD]
theorem one_mem {D : List Nat} {t : Tok} (h : t ∈ oneT D) : t.d.length = D.length := by
  unfold oneT at h
  split at h
  · cases h
  · rw [List.mem_singleton.1 h]
theorem one_enc (D : List Nat) (hD : D.length ≤ 1000000) : (bytesL (oneT D)).length ≤ 40 + D.length := by
  have hc : ∀ t ∈ oneT D, Du.Tok.can t := by
    have h := one_can D
    unfold bytesE at h
    rw [if_neg (by have := one_len D; omega)] at h
    split at h
    · assumption
    · cases h
  have h1 := Du.encs_len hc (fun t ht => by rw [one_mem ht]; exact hD)
  rw [one_sum] at h1
  have h2 := one_len D
  have h3 := numL_six (oneT D).length (by omega)
  unfold bytesL
  rw [List.length_append]
  omega
theorem isT_of {u : World} {N : Nat} {a : Option Addr} {n c : Nat} {ps : List TV} {T : List Tok} (h : OwnT u N (.slice a n c) ps) (hp : ps.map (·.1) = T) : IsT u a n c T := by
  obtain ⟨a', c', e, -, hi⟩ := h.is
  injection e with e1 e2 e3
  rw [e1, e2, e3, ← hp]; exact hi
theorem own_away {w w' : World} {N g : Nat} {v : Value} {ps : List TV} (h : OwnT w N v ps) (hg : w.grownBy w' (some g)) (hv : ∀ k, v.ownBlock = some k → k < g) (hp : ∀ p ∈ ps, ∀ k, p.2.ownBlock = some k → k < g) : OwnT w' N v ps :=
  h.same hg.size (fun k hk => hg.block k (h.own k hk).2 (fun e => by injection e with e; have := hv k hk; omega)) (fun p hq k hk => hg.block k (h.owns hq k hk).2 (fun e => by injection e with e; have := hp p hq k hk; omega))
theorem slice_of {u : World} {N : Nat} {v : Value} {ps : List TV} {T : List Tok} (h : OwnT u N v ps) (hp : ps.map (·.1) = T) : ∃ a c, v = .slice a T.length c := by
  obtain ⟨a, c, e, -⟩ := h.is
  exact ⟨a, c, by rw [e, ← hp, List.length_map]⟩
set_option maxHeartbeats 6400000 in
theorem walk_any (a : Option Addr) (m c : Nat) (D : List Nat) (w : World) (hs : SrcB w a m D) (hc : m ≤ c) (hcm : c ≤ 9223372036854775807) (hn : a = none → m = 0) (hT : Tbl w) (hF : Fst w) :
    Calls Tryd.prog 10 #[.slice a m c] w fun e w' => e = .returned (.bool true) ∧ Below w.heap.size w w' := by
  have HT := hide (tells_c w hT hF)
  have HS := hide (fun (u : World) (hu : Below w.heap.size w u) => hs.below hu)
  have hDl := hs.1
  by_cases h5 : 200 < m
  · have d1 : decide ((200 : Int) < (m : Int)) = true := by simp; omega
    have d1' : decide (200 < m) = true := by simp; omega
    clear hDl HS hs hT hF
    go_enter Tryd.func10, Tryd.ntmps10
    go_wp2_with fail
    refine HT.out.mono ?_
    rintro e w1 ⟨rfl, hb1⟩
    have HB1 := hide hb1
    clear hb1
    go_wp2
    go_ret
    exact ⟨rfl, HB1.out⟩
  have d1 : decide ((200 : Int) < (m : Int)) = false := by simp; omega
  have d1' : decide (200 < m) = false := by simp; omega
  have hm2 : m ≤ 200 := by omega
  have HTF := hide (fun (u : World) (hu : Below w.heap.size w u) => (⟨tbl_keep hT hu (Nat.le_refl _), fst_keep hF hu (Nat.le_refl _)⟩ : Tbl u ∧ Fst u))
  have hch : checkE 4 4 0 [] = 0 := mk_check [] 4 4 0 0 (by decide) (by decide)
  have HA := hide (fun u (hu : Below w.heap.size w u) => make_ok none 0 0 [] 4 4 0 u (SrcB.nil u none) (by omega) (by omega) (by decide) (by decide) (HTF.out u hu).1 (HTF.out u hu).2)
  have hmk : mkB [] 4 4 0 = [] := rfl
  have hz0 : ((0 : Nat) : Int) = 0 := rfl
  have hz4 : ((4 : Nat) : Int) = 4 := rfl
  simp only [hmk, hz0, hz4] at HA
  obtain ⟨T, hTd⟩ : ∃ T, T = oneT D := ⟨_, rfl⟩
  have HTd := hide hTd
  have HE0 : Hid (bytesE T = 0) := hide (by rw [hTd]; exact one_can D)
  have HSm : Hid (sumD T ≤ 800000) := hide (by rw [hTd, one_sum]; omega)
  have hq : (bytesL T).length ≤ 1000000 := by
    have := one_enc D (by omega)
    rw [hTd]; omega
  have HRb : Hid (Dw.readR (bytesL T) = .ok T) := hide (readR_back T HE0.out (fun t ht => by rw [hTd] at ht; rw [one_mem ht]; omega))
  have HMk := hide (fun (u : World) (av : Option Addr) (cv : Nat) (ad : Option Addr) (cd : Nat) (hu : Below w.heap.size w u) (hb : IsBks .u32 u (.slice av 0 cv) []) (hsr : SrcB u ad m D) (h1 : m ≤ cd) (h2 : cd ≤ 9223372036854775807) (h3 : ad = none → m = 0) => make_c u 4 4 0 0 cv av [] ad m cd D hb rfl hch hsr h1 h2 h3 (by omega) (HTF.out u hu).1 (HTF.out u hu).2)
  simp only [mkA_raw (fd_no 4 4 0) 4 D, ← hTd, hz0, hz4] at HMk
  unfold sigV at HMk
  clear hs hT hF hch hmk hz0 hz4 HTF hTd
  go_enter Tryd.func10, Tryd.ntmps10
  go_wp2_with fail
  refine HT.out.mono ?_
  rintro e w1 ⟨rfl, hb1⟩
  have HB1 := hide hb1
  clear hb1 HT
  go_wp2_with fail
  (with_reducible refine Calls.mono (HA.out w1 HB1.out) ?_)
  rintro e w3 ⟨v, rfl, ho, hb3⟩
  have HB3 := hide (keepB hb3 (Nat.le_refl _) HB1.out)
  have his := ho.is
  obtain ⟨_, av, cv, hv, hcv, hcvm, -⟩ := ho.is
  simp only [List.length_nil] at hv hcv
  subst hv
  clear hb3 HB1 HA ho
  unfold sigV
  have hd0 := dst_new (w3.alloc (.cells #[.int .i64 4, .int .i64 4, .int .i64 0, .slice av 0 cv] 50)) [] #[] 5 (0, 0) rfl (by intro z hz; cases hz) (by simp)
  simp only [World.size_alloc] at hd0
  have HD0 : Hid (Dst ((w3.alloc (.cells #[.int .i64 4, .int .i64 4, .int .i64 0, .slice av 0 cv] 50)).alloc (.cells #[] 5)) (w3.heap.size + 1) 0 0 []) := hide hd0
  have HC5 := hide (keepB (below_new (w3.alloc (.cells #[.int .i64 4, .int .i64 4, .int .i64 0, .slice av 0 cv] 50)) (.cells #[] 5)) (Nat.le_refl _) (below_new w3 (.cells #[.int .i64 4, .int .i64 4, .int .i64 0, .slice av 0 cv] 50)))
  have HS5 := hide (heap_old (heap_last w3 (.cells #[.int .i64 4, .int .i64 4, .int .i64 0, .slice av 0 cv] 50)) (.cells #[] 5))
  have hsr : Hid (SrcB ((w3.alloc (.cells #[.int .i64 4, .int .i64 4, .int .i64 0, .slice av 0 cv] 50)).alloc (.cells #[] 5)) a m D) := hide (HS.out _ (keepB HC5.out (Nat.le_refl _) HB3.out))
  have hw3 := HB3.out.size
  clear hd0
  go_wp2_with (refine wpList_append_dst rfl (.tmp 24) (.tmp 25) rfl (w3.heap.size + 1) 0 0 [] a m c D rfl rfl HD0.out hsr.out (by omega) hn ?_)
  generalize ((w3.alloc (.cells #[.int .i64 4, .int .i64 4, .int .i64 0, .slice av 0 cv] 50)).alloc (.cells #[] 5)) = w5 at *
  rintro g cap w6 HD6 HG6 hg6 -
  refine of_hid ?_
  have HC6 := hide (belowG HC5.out HG6.out (show w3.heap.size ≤ w3.heap.size + 1 by omega) HC5.out.size)
  have hw5 : w3.heap.size + 1 < w5.heap.size := HD0.out.lt
  have HS6 := hide (keepG HG6.out (by omega) HS5.out)
  have HB6 := hide (keepB HC6.out (Nat.le_refl _) HB3.out)
  have hgw : w3.heap.size < g := by omega
  have HI6 := hide (his.below HC6.out)
  have hwg : w.heap.size ≤ g := by omega
  clear HC5 HS5 HD0 HG6 hg6 hsr HC6 his HB3 hw5
  have hg6 : g < w6.heap.size := HD6.out.lt
  have hcap : m ≤ cap := HD6.out.fit
  have hcapm : cap ≤ 9223372036854775807 := by have := HD6.out.max; unfold maxLen at this; omega
  have HMk6 := hide (HMk.out w6 av cv (some ⟨g, 0, none⟩) cap HB6.out HI6.out HD6.out.src hcap hcapm (fun e => by cases e))
  obtain ⟨r0, r1, r2, r3⟩ := Sig4.cells (T := 50) HS6.out
  clear HMk HI6 HS6
  generalize w3.heap.size = S1 at *
  go_wp2_with fail
  (with_reducible refine Calls.mono HMk6.out ?_)
  rintro e w7 ⟨v1, ps1, rfl, hp1, ho1, hb7⟩
  obtain ⟨a1, c1, rfl⟩ := slice_of ho1 hp1
  have HB7 := hide (keepB hb7 (Nat.le_refl _) HB6.out)
  have HD7 := hide (HD6.out.below hb7 HD6.out.lt)
  have HO1 := hide ho1
  have hs7 := hb7.size
  clear hb7 ho1 r0 r1 r2 r3 HB6 HD6 HMk6
  obtain ⟨tn, htn⟩ : ∃ tn, tn = T.length := ⟨_, rfl⟩
  rw [← htn] at HO1
  have Htn := hide htn
  simp only [← htn]
  clear htn
  have HWh := hide (whole_c w7 (some ⟨g, 0, none⟩) m cap D HD7.out.src (fun e => by cases e) (by omega))
  go_wp2_with fail
  (with_reducible refine Calls.mono HWh.out ?_)
  rintro e w8 ⟨v2, ps2, rfl, hp2', ho2, hb8⟩
  have hp2 : ps2.map (·.1) = T := hp2'.trans HTd.out.symm
  obtain ⟨a2, c2, rfl⟩ := slice_of ho2 hp2
  rw [← Htn.out] at ho2
  simp only [← Htn.out]
  have HB8 := hide (keepB hb8 (Nat.le_refl _) HB7.out)
  have HD8 := hide (HD7.out.below hb8 HD7.out.lt)
  have HO1' := hide (HO1.out.below hb8)
  have HO2 := hide ho2
  have hs8 := hb8.size
  clear hb8 ho2 hp2' HO1 HB7 HD7 HWh
  have HBy := hide (bytes_c w8 a1 tn c1 T (isT_of HO1'.out hp1) HSm.out)
  go_wp2_with fail
  (with_reducible refine Calls.mono HBy.out ?_)
  rintro e w9 ⟨bv, he, hcase, hb9⟩
  rw [HE0.out] at he hcase
  subst he
  have hbf : Buf w9 bv w8.heap.size (bytesL T) := by
    rcases hcase with ⟨h, _⟩ | ⟨_, h⟩
    · exact absurd rfl h
    · exact h
  obtain ⟨gb, capb, hbv, hgb, hdb⟩ : ∃ gb capb, bv = .slice (some ⟨gb, 0, none⟩) (bytesL T).length capb ∧ w8.heap.size ≤ gb ∧ Dst w9 gb (bytesL T).length capb (bytesL T) := by
    rcases hbf with ⟨_, h⟩ | ⟨gb, capb, h1, h2, h3⟩
    · have := congrArg List.length h
      unfold bytesL at this
      rw [List.length_append, List.length_nil] at this
      have := numL_pos T.length
      omega
    · exact ⟨gb, capb, h1, h2, h3⟩
  subst hbv
  have HB9 := hide (keepB hb9 (Nat.le_refl _) HB8.out)
  have HD9 := hide (HD8.out.below hb9 HD8.out.lt)
  have HO19 := hide (HO1'.out.below hb9)
  have HO29 := hide (HO2.out.below hb9)
  have Hl1 : Hid ((∀ k, (Value.slice a1 tn c1).ownBlock = some k → k < gb) ∧ ∀ p ∈ ps1, ∀ k, p.2.ownBlock = some k → k < gb) := hide ⟨fun k hk => by have := (HO1'.out.own k hk).2; omega, fun p hp k hk => by have := (HO1'.out.owns hp k hk).2; omega⟩
  have Hl2 : Hid ((∀ k, (Value.slice a2 tn c2).ownBlock = some k → k < gb) ∧ ∀ p ∈ ps2, ∀ k, p.2.ownBlock = some k → k < gb) := hide ⟨fun k hk => by have := (HO2.out.own k hk).2; omega, fun p hp k hk => by have := (HO2.out.owns hp k hk).2; omega⟩
  have HDb := hide hdb
  have hs9 := hb9.size
  obtain ⟨Y, hY⟩ : ∃ Y, Y = bytesL T := ⟨_, rfl⟩
  rw [← hY] at hq HRb HDb
  obtain ⟨q, hqd⟩ : ∃ q, q = Y.length := ⟨_, rfl⟩
  simp only [← hY, ← hqd]
  rw [← hqd] at hq HDb
  clear hb9 hbf hcase hdb HB8 HD8 HO1' HO2 HBy hY hqd
  have hgb9 : gb < w9.heap.size := HDb.out.lt
  have hne : gb ≠ g := by omega
  have hcb : q ≤ capb := HDb.out.fit
  have HRe := hide (read_toks w9 (some ⟨gb, 0, none⟩) q capb Y HDb.out.src hcb hq)
  go_wp2_with fail
  (with_reducible refine Calls.mono HRe.out ?_)
  rintro e w10 ⟨v3, ev, rfl, hb10, hcase⟩
  obtain ⟨ps3, hp3, rfl, ho3⟩ : ∃ ps : List TV, ps.map (·.1) = T ∧ ev = .nilIface ∧ OwnT w10 w9.heap.size v3 ps := by
    rcases hcase with ⟨code, place, b, h, _⟩ | ⟨ps, h, h2, h3, _⟩
    · rw [HRb.out] at h; cases h
    · rw [HRb.out] at h; injection h with h; exact ⟨ps, h.symm, h2, h3⟩
  obtain ⟨a3, c3, rfl⟩ := slice_of ho3 hp3
  rw [← Htn.out] at ho3
  simp only [← Htn.out]
  have HBa := hide (keepB hb10 (Nat.le_refl _) HB9.out)
  have HDa := hide (HD9.out.below hb10 HD9.out.lt)
  have HDba := hide (HDb.out.below hb10 HDb.out.lt)
  have HO1a := hide (HO19.out.below hb10)
  have HO2a := hide (HO29.out.below hb10)
  have HO3a := hide ho3
  clear hb10 hcase ho3 HB9 HD9 HDb HO19 HO29 HRe
  go_wp2_with fail
  go_loopw [47, 13] (fun j _ wr => ∃ k L, j = .int .i64 ((k : Nat) : Int) ∧ k ≤ m ∧ Dst wr g m cap L ∧ w10.grownBy wr (some g)) (fun j _ _ => m - (intOf j).toNat)
  case atStart => exact ⟨0, _, rfl, Nat.zero_le _, HDa.out, World.grownBy.refl w10 _⟩
  case round =>
    clear HDa
    obtain ⟨k, L, rfl, hk, hd, hg⟩ := hrel
    have HDr := hide hd
    have HGr := hide hg
    clear hd hg
    by_cases hlt : k < m
    · have hcl := HDr.out.cell hlt
      have hzf := HDr.out.free k
      have h8 := all8_getD HDr.out.all k
      have HP := hide (fun x (hx : x < 256) => dst_put HDr.out hlt hx)
      generalize L.getD k 0 = z at *
      go_wp2
      go_roundw
      case rel =>
        have hzx : ((z : Int) + 1) % 256 = (((z + 1) % 256 : Nat) : Int) := by omega
        rw [hzx]
        exact ⟨k + 1, _, by go_num, by omega, HP.out ((z + 1) % 256) (by omega), grown_setCell HGr.out k _⟩
      case measure => simp [intOf]; omega
    · obtain rfl : k = m := by omega
      have HBc := hide (belowG HBa.out HGr.out hwg HBa.out.size)
      have HDc := hide (HDba.out.kept HGr.out hne)
      have HO1c := hide (own_grown HO1a.out HGr.out (by omega))
      have HO2c := hide (own_grown HO2a.out HGr.out (by omega))
      have HO3c := hide (own_grown HO3a.out HGr.out (by omega))
      clear HBa HDba HO1a HO2a HO3a HDr HGr hk hlt
      go_wp2_with fail
      obtain ⟨w11, hw11⟩ : ∃ w11, w11 = wr := ⟨_, rfl⟩
      subst hw11
      go_loopw [59, 14] (fun j _ wq => ∃ i L, j = .int .i64 ((i : Nat) : Int) ∧ i ≤ q ∧ Dst wq gb q capb L ∧ w11.grownBy wq (some gb)) (fun j _ _ => q - (intOf j).toNat)
      case atStart => exact ⟨0, _, rfl, Nat.zero_le _, HDc.out, World.grownBy.refl w11 _⟩
      case round =>
        clear HDc
        obtain ⟨i, L, rfl, hi, hd, hg⟩ := hrel
        have HDr := hide hd
        have HGr := hide hg
        clear hd hg
        by_cases hlt : i < q
        · have hcl := HDr.out.cell hlt
          have hzf := HDr.out.free i
          have h8 := all8_getD HDr.out.all i
          have HP := hide (fun x (hx : x < 256) => dst_put HDr.out hlt hx)
          generalize L.getD i 0 = z at *
          go_wp2
          go_roundw
          case rel =>
            have hzx : ((z : Int) + 1) % 256 = (((z + 1) % 256 : Nat) : Int) := by omega
            rw [hzx]
            exact ⟨i + 1, _, by go_num, by omega, HP.out ((z + 1) % 256) (by omega), grown_setCell HGr.out i _⟩
          case measure => simp [intOf]; omega
        · obtain rfl : i = q := by omega
          have HBd := hide (belowG HBc.out HGr.out (by omega) HBc.out.size)
          have HO1d := hide (own_away HO1c.out HGr.out Hl1.out.1 Hl1.out.2)
          have HO2d := hide (own_away HO2c.out HGr.out Hl2.out.1 Hl2.out.2)
          have HO3d := hide (own_grown HO3c.out HGr.out (by omega))
          clear HBc HO1c HO2c HO3c HDr HGr hi hlt Hl1 Hl2
          have htn5 : tn ≤ 1000000 := by have := one_len D; rw [Htn.out, HTd.out]; omega
          have HI1 := hide (isT_of HO1d.out hp1)
          have HI2 := hide (isT_of HO2d.out hp2)
          have HI3 := hide (isT_of HO3d.out hp3)
          go_wp2_with fail
          (with_reducible refine Calls.mono (plain_c wr a1 tn c1 T (HI1.out) htn5) ?_)
          rintro e x1 ⟨vp, rfl, hop, hb⟩
          obtain ⟨qa1, qc1, hvp, hiq⟩ := hop.is
          subst hvp
          have HQ1 := hide hiq
          have HBk1 := hide hb
          clear hop hb hiq
          go_wp2_with fail
          (with_reducible refine Calls.mono (plain_c x1 a2 tn c2 T (HI2.out.below HBk1.out) htn5) ?_)
          rintro e x2 ⟨vp, rfl, hop, hb⟩
          obtain ⟨qa2, qc2, hvp, hiq⟩ := hop.is
          subst hvp
          have HQ2 := hide hiq
          have HBk2 := hide hb
          clear hop hb hiq
          have HSa := hide (same_c x2 qa1 qa2 T.length qc1 qc2 T (HQ1.out.below HBk2.out) HQ2.out)
          have HBx2 := hide (keepB HBk2.out (Nat.le_refl _) HBk1.out)
          clear HQ1 HQ2 HBk1 HBk2
          go_wp2_with fail
          (with_reducible refine Calls.mono HSa.out ?_)
          rintro e x3 ⟨rfl, hb⟩
          have HBx3 := hide (keepB hb (Nat.le_refl _) HBx2.out)
          clear hb HSa HBx2
          go_wp2_with fail
          (with_reducible refine Calls.mono (plain_c x3 a3 tn c3 T (HI3.out.below HBx3.out) htn5) ?_)
          rintro e x4 ⟨vp, rfl, hop, hb⟩
          obtain ⟨qa3, qc3, hvp, hiq⟩ := hop.is
          subst hvp
          have HQ3 := hide hiq
          have HBk3 := hide hb
          clear hop hb hiq
          have HBx4 := hide (keepB HBk3.out (Nat.le_refl _) HBx3.out)
          go_wp2_with fail
          (with_reducible refine Calls.mono (plain_c x4 a1 tn c1 T (HI1.out.below HBx4.out) htn5) ?_)
          rintro e x5 ⟨vp, rfl, hop, hb⟩
          obtain ⟨qa4, qc4, hvp, hiq⟩ := hop.is
          subst hvp
          have HQ4 := hide hiq
          have HBk4 := hide hb
          clear hop hb hiq
          have HSb := hide (same_c x5 qa3 qa4 T.length qc3 qc4 T (HQ3.out.below HBk4.out) HQ4.out)
          have HBx5 := hide (keepB HBk4.out (Nat.le_refl _) HBx4.out)
          clear HQ3 HQ4 HBk3 HBk4 HBx3 HBx4
          go_wp2_with fail
          (with_reducible refine Calls.mono HSb.out ?_)
          rintro e x6 ⟨rfl, hb⟩
          have HBx6 := hide (keepB hb (Nat.le_refl _) HBx5.out)
          have HBy6 := hide (keepB HBx6.out (Nat.le_refl _) HBd.out)
          have HO6 := hide (HO1d.out.below HBx6.out)
          clear hb HSb HBx5 HBx6 HO1d HO2d HO3d HI1 HI2 HI3 HBd
          by_cases h0 : k = 0
          · have e0 : ((k : Int) == 0) = true := by simpa using h0
            have e1 : (k == 0) = true := by simpa using h0
            go_wp2_with fail
            refine wp_region_keep (fun u => Below x6.heap.size x6 u) (by kernel_rfl) (by kernel_rfl) ((Below.refl _ _).drew) ?_
            repeat (first
              | (refine keep_not (by rfl) ?_
                 simp only [Act.put, List.setIfInBounds_toArray, List.set_cons_zero, List.set_cons_succ])
              | (refine keep_step (v := ?_) (by rfl) (fun u K hS hK => ?_) ?_
                 rotate_left
                 · (go_simp; with_reducible exact hK _ hS)
                 simp only [Act.put, List.setIfInBounds_toArray, List.set_cons_zero, List.set_cons_succ]))
            refine keep_nil (fun w30 hS3 => ?_)
            have HBz := hide (keepB hS3 (Nat.le_refl _) HBy6.out)
            clear hS3 HBy6
            go_wp2
            go_ret
            exact ⟨rfl, HBz.out⟩
          · have e0 : ((k : Int) == 0) = false := by simpa using h0
            have e1 : (k == 0) = false := by simpa using h0
            have hT1 : ps1.map (·.1) = [⟨0, 0, D⟩] := by rw [hp1, HTd.out]; unfold oneT; rw [if_neg (by omega)]
            obtain ⟨g1, cap1, ad, md, cd, hv, c0, c1', c2', hsd⟩ := one_cells HO6.out hT1
            injection hv with q1 q2 q3
            subst q1
            subst q2
            subst q3
            have HCs := hide (fun (u : World) (hu : Below x6.heap.size x6 u) => (⟨keepC hu (Nat.le_refl _) c2', conv_src (cap := cd) (hsd.below hu), conv_src (cap := c) (HS.out u (keepB hu (Nat.le_refl _) HBy6.out))⟩ :
              u.cell? ⟨g1, 2, none⟩ = some (.slice ad md cd) ∧ Sem.run Tryd.prog (convert 22 9 (.slice ad md cd)) u = .ok (.string (strN D)) u ∧ Sem.run Tryd.prog (convert 22 9 (.slice a k c)) u = .ok (.string (strN D)) u))
            clear hsd c0 c1' c2' HS HO6
            obtain ⟨X, hX⟩ : ∃ X, X = strN D := ⟨_, rfl⟩
            rw [← hX] at HCs
            clear hX
            have hXX : (X.toList == X.toList) = true := by simp
            go_wp2_with fail
            refine wp_region_keep (fun u => Below x6.heap.size x6 u) (by kernel_rfl) (by kernel_rfl) ((Below.refl _ _).drew) ?_
            repeat (first
              | (refine keep_not (by rfl) ?_
                 simp only [Act.put, List.setIfInBounds_toArray, List.set_cons_zero, List.set_cons_succ])
              | (refine keep_step (v := ?_) (by rfl) (fun u K hS hK => ?_) ?_
                 rotate_left
                 · obtain ⟨c2', k1, k2⟩ := HCs.out u hS
                   (go_simp; first
                     | (rw [k1]; go_simp; with_reducible exact hK _ hS)
                     | (rw [k2]; go_simp; with_reducible exact hK _ hS)
                     | (with_reducible exact hK _ hS))
                 simp only [Act.put, List.setIfInBounds_toArray, List.set_cons_zero, List.set_cons_succ]))
            refine keep_nil (fun w30 hS3 => ?_)
            have HBz := hide (keepB hS3 (Nat.le_refl _) HBy6.out)
            clear hS3 HBy6 HCs
            go_wp2
            go_ret
            exact ⟨rfl, HBz.out⟩
end Go.Proofs.YtkinpbhbgeiflaaDoor.DeltaOwnW
