/- Several texts, one behind the other. -/
import Derived.Test.YtkinpbhbgeiflaaDoorQh
import Derived.Test.YtkinpbhbgeiflaaDoorQe
import Derived.Test.YtkinpbhbgeiflaaDoorQf
import Derived.Test.YtkinpbhbgeiflaaDoorQg
/- delta's join: the default arm behind a token; blocks; all. -/
namespace Go.Proofs.YtkinpbhbgeiflaaDoor.Df
set_option linter.unusedVariables false
set_option linter.unusedSimpArgs false
set_option maxRecDepth 100000
open Go.ChangeShapes Go.WideShapes Go.ChangeAt Go.RowKit
open Go.Proofs.YtkinpbhbgeiflaaDoor.Wu Go.Proofs.YtkinpbhbgeiflaaDoor.Sm Go.Proofs.YtkinpbhbgeiflaaDoor.Sh Go.Proofs.YtkinpbhbgeiflaaDoor.Ba Go.Proofs.YtkinpbhbgeiflaaDoor.Bp Go.Proofs.YtkinpbhbgeiflaaDoor.Bq Go.Proofs.YtkinpbhbgeiflaaDoor.Kv Go.Proofs.YtkinpbhbgeiflaaDoor.Rk Go.Proofs.YtkinpbhbgeiflaaDoor.Rh Go.Proofs.YtkinpbhbgeiflaaDoor.Rw Go.Proofs.YtkinpbhbgeiflaaDoor.Rb1 Go.Proofs.YtkinpbhbgeiflaaDoor.Da Go.Proofs.YtkinpbhbgeiflaaDoor.Db Go.Proofs.YtkinpbhbgeiflaaDoor.Dc Go.Proofs.YtkinpbhbgeiflaaDoor.Dd Go.Proofs.YtkinpbhbgeiflaaDoor.De
attribute [local go_sem] kUpon_value kUpon_skip kUpon_enter
set_option maxHeartbeats 1600000 in
theorem join_1 (w : World) (N g n cap : Nat) (us : List TV) (l : Tok) (dv : Value) (x : Tok) (ad : Option Addr) (m cd : Nat) (h : OwnT w N (.slice (some ⟨g, 0, none⟩) n cap) (us ++ [(l, dv)])) (hN : N ≤ w.heap.size) (hx : SrcB w ad m x.d) (hm : m ≤ cd) (hcd : cd ≤ 9223372036854775807) (hn : ad = none → m = 0) (hus : us.length ≤ 1000000) (hl : l.d.length ≤ 1000000) (hmb : m ≤ 1000000) (hf : fuse l x = none) (h1 : l.isB = true) (h2 : x.isB = false) (h3 : l.isK = false) :
    Calls Tryd.prog 53 #[.slice (some ⟨g, 0, none⟩) n cap, tokV x ad m cd] w (JoinP w N (.slice (some ⟨g, 0, none⟩) n cap) (us ++ [(l, dv)]) x) := by
  have hxl := hx.1
  have HJ := hide (JS.enter (cd := cd) h hx)
  have H0 := hide h
  have hbuf := h.buf (l, dv) (by simp)
  obtain ⟨al, cl, hdv, -⟩ := hbuf.form
  obtain ⟨hnn, -⟩ := load_last h
  have HIl := hide (fun u : World => isB_c u l al l.d.length cl rfl)
  have HIx := hide (fun u : World => isB_c u x ad m cd hxl)
  have HKl := hide (fun u : World => isK_c u l al l.d.length cl rfl)
  have HKx := hide (fun u : World => isK_c u x ad m cd hxl)
  obtain ⟨k, hk⟩ : ∃ k, k = us.length := ⟨_, rfl⟩
  have Hk := hide hk
  rw [← hk] at hus hnn
  subst hnn
  obtain ⟨ll, hll⟩ : ∃ ll, ll = l.d.length := ⟨_, rfl⟩
  have Hll := hide hll
  rw [← hll] at HIl HKl hl hdv
  simp only at hdv
  subst hdv
  have i2 : (k : Int) < (k : Int) + 1 := by omega
  have HL : Hid ((us ++ [(l, Value.slice al ll cl)]).length ≤ 1000001) := hide (by simp only [List.length_append, List.length_cons, List.length_nil]; omega)
  have HF := hide (joinT_none (us := us) (dv := .slice al ll cl) hf)
  rw [h1] at HIl
  rw [h2] at HIx
  rw [h3] at HKl
  clear hk h hx hbuf hll hf
  unfold tokV at *
  obtain ⟨r0, r1, r2, rf⟩ := last_cells HJ.out.own Hk.out
  go_enter Tryd.func53, Tryd.ntmps53
  go_wp2_with fail
  refine (HIl.out _).mono ?_
  rintro e w2 ⟨rfl, hb2⟩
  have HJ3 := hide (HJ.out.up hb2)
  clear hb2 HJ r0 r1 r2 rf
  obtain ⟨x0, x1, x2⟩ := HJ3.out.xs
  go_wp2_with fail
  refine (HIx.out _).mono ?_
  rintro e w3 ⟨rfl, hb3⟩
  have HJ3 := hide (HJ3.out.up hb3)
  clear hb3 x0 x1 x2
  go_wp2_with fail
  refine wp_region_keep (fun u => JS w N (Value.slice (some ⟨g, 0, none⟩) (k + 1) cap) (us ++ [(l, Value.slice al ll cl)]) x ad m cd u) (by kernel_rfl) (by kernel_rfl) (HJ3.out.up (Below.refl _ _).drew) ?_
  repeat (first
    | (refine keep_not (by rfl) ?_
       simp only [Act.put, List.setIfInBounds_toArray, List.set_cons_zero, List.set_cons_succ])
    | (refine keep_step (v := ?_) (by rfl) (fun u K hS hK => ?_) ?_
       rotate_left
       · obtain ⟨x0, x1, x2⟩ := hS.xs
         obtain ⟨r0, r1, r2, rf⟩ := last_cells hS.own Hk.out
         (go_simp; first
           | (go_at_call 59; (with_reducible refine Calls.mono (HKl.out _) ?_); rintro e u2 ⟨rfl, hu⟩; exact hK _ (hS.up hu))
           | (go_at_call 59; (with_reducible refine Calls.mono (HKx.out _) ?_); rintro e u2 ⟨rfl, hu⟩; exact hK _ (hS.up hu))
           | (with_reducible exact hK _ hS))
       simp only [Act.put, List.setIfInBounds_toArray, List.set_cons_zero, List.set_cons_succ]))
  refine keep_nil (fun w3 hS3 => ?_)
  have HJ3 := hide hS3
  clear hS3
  go_wp2_with fail
  refine wp_region_h (ET w N (Value.slice (some ⟨g, 0, none⟩) (k + 1) cap) (us ++ [(l, Value.slice al ll cl)]) x ad m cd)
    [some (some (Value.slice (some ⟨g, 0, none⟩) (k + 1) cap)), some (some (.pointer (some ⟨w.heap.size, 0, none⟩))), some (some (.int .i64 x.f)), some (some (.pointer (some ⟨w.heap.size, 1, none⟩))), some (some (.int .i64 x.c)), some (some (.pointer (some ⟨w.heap.size, 2, none⟩))), some (some (.slice ad m cd)), none, some none, none, none, some none]
    [3, 3, 1, 3, 1, 3, 0, 0, 3, 0, 0, 3] (by kernel_rfl) (by kernel_rfl) [7, 9, 10] [7, 8, 9, 10, 11] rfl rfl (by kernel_rfl) (by kernel_rfl) (HJ3.out.up (Below.refl _ _).drew) ?_
  refine gF_step (by rfl) (fun h u K hL hT hK => ?_) ?_
  · go_simp
    exact hK _ hT
  simp only [Act.put, List.setIfInBounds_toArray, List.set_cons_zero, List.set_cons_succ]
  refine gF_step (by rfl) (fun h u K hL hT hK => ?_) ?_
  · go_simp
    exact hK _ hT
  simp only [Act.put, List.setIfInBounds_toArray, List.set_cons_zero, List.set_cons_succ]
  refine gF_step (by rfl) (fun h u K hL hT hK => ?_) ?_
  · obtain ⟨x0, x1, x2⟩ := (hT.js (by omega)).xs
    go_simp
    exact hK _ hT
  simp only [Act.put, List.setIfInBounds_toArray, List.set_cons_zero, List.set_cons_succ]
  refine gF_step (by rfl) (fun h u K hL hT hK => ?_) ?_
  · go_simp
    exact hK _ hT
  simp only [Act.put, List.setIfInBounds_toArray, List.set_cons_zero, List.set_cons_succ]
  refine gF_step (by rfl) (fun h u K hL hT hK => ?_) ?_
  · obtain ⟨x0, x1, x2⟩ := (hT.js (by omega)).xs
    go_simp
    exact hK _ hT
  simp only [Act.put, List.setIfInBounds_toArray, List.set_cons_zero, List.set_cons_succ]
  refine gF_step (by rfl) (fun h u K hL hT hK => ?_) ?_
  · go_simp
    exact hK _ hT
  simp only [Act.put, List.setIfInBounds_toArray, List.set_cons_zero, List.set_cons_succ]
  refine gF_step (by rfl) (fun h u K hL hT hK => ?_) ?_
  · obtain ⟨x0, x1, x2⟩ := (hT.js (by omega)).xs
    go_simp
    exact hK _ hT
  simp only [Act.put, List.setIfInBounds_toArray, List.set_cons_zero, List.set_cons_succ]
  refine gD_step (fun d => ∃ a n c, d = .slice a n c) ⟨_, none, 0, 0, rfl⟩ (by rfl) (fun u K hT hK => ?_) (fun d hd => ?_)
  · have hT0 : JS w N (Value.slice (some ⟨g, 0, none⟩) (k + 1) cap) (us ++ [(l, Value.slice al ll cl)]) x ad m cd u := hT
    go_simp
    go_at_call 70
    (with_reducible refine Calls.mono (clone_any u ad m cd x.d hT0.src hn (by omega)) ?_)
    rintro e u2 ⟨d, rfl, hbuf, hu⟩
    obtain ⟨da, dc, hdv, -⟩ := hbuf.form
    exact hK _ _ ⟨da, _, dc, hdv⟩ ⟨hT0.up hu, buf_down hbuf hT0.below.size⟩
  obtain ⟨da, dn, dc, rfl⟩ := hd
  simp only [Act.put, List.setIfInBounds_toArray, List.set_cons_zero, List.set_cons_succ]
  refine gG_step (v := .agg #[.int .i64 x.f, .int .i64 x.c, .slice da dn dc]) (by rfl) (fun h' u K hT hK => ?_) ?_
  · go_simp
    exact hK _ hT
  simp only [Act.put, List.setIfInBounds_toArray, List.set_cons_zero, List.set_cons_succ]
  refine gD_step (fun y => ∃ C, y = .slice (some ⟨C, 0, none⟩) 1 1) ⟨_, 0, rfl⟩ (by rfl) (fun u K hT hK => ?_) (fun y hy => ?_)
  · have hT0 : JS w N (Value.slice (some ⟨g, 0, none⟩) (k + 1) cap) (us ++ [(l, Value.slice al ll cl)]) x ad m cd u ∧ Buf u (.slice da dn dc) w.heap.size x.d := hT
    refine kUpon_slice_to 53 1 _ rfl [(0, .agg #[.int .i64 x.f, .int .i64 x.c, .slice da dn dc])] rfl _ _ (one_tok u x.f x.c (.slice da dn dc)) (hK _ _ ⟨_, rfl⟩ ?_)
    exact ⟨⟨hT0.1.up (below_new _ _), buf_up hT0.2 (below_new _ _)⟩, _, rfl, _, _, heap_last _ _⟩
  obtain ⟨C, rfl⟩ := hy
  simp only [Act.put, List.setIfInBounds_toArray, List.set_cons_zero, List.set_cons_succ]
  refine gD_step (fun y => ∃ g n cap, y = .slice (some ⟨g, 0, none⟩) n cap) ⟨_, 0, 0, 0, rfl⟩ (by rfl) (fun u K hT hK => ?_) (fun y hy => ?_)
  · obtain ⟨⟨hJ, hbuf⟩, C', e, T', f', hC⟩ := hT
    simp only [Value.slice.injEq, Option.some.injEq, Addr.mk.injEq, and_true] at e
    subst e
    have hNu : N ≤ u.heap.size := Nat.le_trans hN hJ.below.size
    have hdk : ∀ k, (Value.slice da dn dc).ownBlock = some k → w.heap.size ≤ k := fun k hk => (buf_own hbuf k hk).1
    obtain ⟨v', u', hrun, ho, hg, hown⟩ := append_tok u _ (Value.slice (some ⟨g, 0, none⟩) (k + 1) cap) N (us ++ [(l, Value.slice al ll cl)]) C x (.slice da dn dc) T' f' 1 hJ.own hNu hC (buf_down hbuf hN) (by
      cases hb : (Value.slice da dn dc).ownBlock with
      | none => exact .inl rfl
      | some k =>
        have h1 := hdk k hb
        exact .inr (fun e => by have := (H0.out.own k e.symm).2; omega)) (fun p hp => by
      cases hb : p.2.ownBlock with
      | none => exact .inl rfl
      | some k =>
        have h1 := (H0.out.owns hp k hb).2
        exact .inr (fun e => by have := hdk k e.symm; omega)) (by have := HL.out; simp only [List.length_append, List.length_cons, List.length_nil] at this ⊢; omega)
    rcases ho.form with ⟨_, h0⟩ | ⟨q, c', hv', -⟩
    · exact absurd h0 (by simp)
    refine kUpon_append 53 (.tmp 9) (.tmp 18) rfl hrun (hK _ _ ⟨q, _, c', hv'⟩ ?_)
    refine ⟨ho, KeepT.from_below hJ.below (KeepT.of_grown hg), ?_, hdk⟩
    rcases hown with e | e
    · exact .inl e
    · exact .inr ⟨_, e, hJ.below.size⟩
  obtain ⟨q, vn, vc, rfl⟩ := hy
  simp only [Act.put, List.setIfInBounds_toArray, List.set_cons_zero, List.set_cons_succ]
  refine gG_step (v := .slice (some ⟨q, 0, none⟩) vn vc) (by rfl) (fun h' u K hT hK => ?_) ?_
  · go_simp
    exact hK _ hT
  simp only [Act.put, List.setIfInBounds_toArray, List.set_cons_zero, List.set_cons_succ]
  refine g_nil (fun w4 hT4 => ?_)
  obtain ⟨h41, h42, h43, h44⟩ := hT4
  have HP := hide (new_post HF.out h41 h42 h43 h44)
  clear h41 h42 h43 h44 HJ3 HF H0 HL
  go_wp2
  go_ret
  exact HP.out
set_option maxHeartbeats 1600000 in
theorem join_2 (w : World) (N g n cap : Nat) (us : List TV) (l : Tok) (dv : Value) (x : Tok) (ad : Option Addr) (m cd : Nat) (h : OwnT w N (.slice (some ⟨g, 0, none⟩) n cap) (us ++ [(l, dv)])) (hN : N ≤ w.heap.size) (hx : SrcB w ad m x.d) (hm : m ≤ cd) (hcd : cd ≤ 9223372036854775807) (hn : ad = none → m = 0) (hus : us.length ≤ 1000000) (hl : l.d.length ≤ 1000000) (hmb : m ≤ 1000000) (hf : fuse l x = none) (h1 : l.isB = false) (h3 : l.isK = false) :
    Calls Tryd.prog 53 #[.slice (some ⟨g, 0, none⟩) n cap, tokV x ad m cd] w (JoinP w N (.slice (some ⟨g, 0, none⟩) n cap) (us ++ [(l, dv)]) x) := by
  have hxl := hx.1
  have HJ := hide (JS.enter (cd := cd) h hx)
  have H0 := hide h
  have hbuf := h.buf (l, dv) (by simp)
  obtain ⟨al, cl, hdv, -⟩ := hbuf.form
  obtain ⟨hnn, -⟩ := load_last h
  have HIl := hide (fun u : World => isB_c u l al l.d.length cl rfl)
  have HIx := hide (fun u : World => isB_c u x ad m cd hxl)
  have HKl := hide (fun u : World => isK_c u l al l.d.length cl rfl)
  have HKx := hide (fun u : World => isK_c u x ad m cd hxl)
  obtain ⟨k, hk⟩ : ∃ k, k = us.length := ⟨_, rfl⟩
  have Hk := hide hk
  rw [← hk] at hus hnn
  subst hnn
  obtain ⟨ll, hll⟩ : ∃ ll, ll = l.d.length := ⟨_, rfl⟩
  have Hll := hide hll
  rw [← hll] at HIl HKl hl hdv
  simp only at hdv
  subst hdv
  have i2 : (k : Int) < (k : Int) + 1 := by omega
  have HL : Hid ((us ++ [(l, Value.slice al ll cl)]).length ≤ 1000001) := hide (by simp only [List.length_append, List.length_cons, List.length_nil]; omega)
  have HF := hide (joinT_none (us := us) (dv := .slice al ll cl) hf)
  rw [h1] at HIl
  rw [h3] at HKl
  clear hk h hx hbuf hll hf
  unfold tokV at *
  obtain ⟨r0, r1, r2, rf⟩ := last_cells HJ.out.own Hk.out
  go_enter Tryd.func53, Tryd.ntmps53
  go_wp2_with fail
  refine (HIl.out _).mono ?_
  rintro e w2 ⟨rfl, hb2⟩
  have HJ3 := hide (HJ.out.up hb2)
  clear hb2 HJ r0 r1 r2 rf
  go_wp2_with fail
  refine wp_region_keep (fun u => JS w N (Value.slice (some ⟨g, 0, none⟩) (k + 1) cap) (us ++ [(l, Value.slice al ll cl)]) x ad m cd u) (by kernel_rfl) (by kernel_rfl) (HJ3.out.up (Below.refl _ _).drew) ?_
  repeat (first
    | (refine keep_not (by rfl) ?_
       simp only [Act.put, List.setIfInBounds_toArray, List.set_cons_zero, List.set_cons_succ])
    | (refine keep_step (v := ?_) (by rfl) (fun u K hS hK => ?_) ?_
       rotate_left
       · obtain ⟨x0, x1, x2⟩ := hS.xs
         obtain ⟨r0, r1, r2, rf⟩ := last_cells hS.own Hk.out
         (go_simp; first
           | (go_at_call 59; (with_reducible refine Calls.mono (HKl.out _) ?_); rintro e u2 ⟨rfl, hu⟩; exact hK _ (hS.up hu))
           | (go_at_call 59; (with_reducible refine Calls.mono (HKx.out _) ?_); rintro e u2 ⟨rfl, hu⟩; exact hK _ (hS.up hu))
           | (with_reducible exact hK _ hS))
       simp only [Act.put, List.setIfInBounds_toArray, List.set_cons_zero, List.set_cons_succ]))
  refine keep_nil (fun w3 hS3 => ?_)
  have HJ3 := hide hS3
  clear hS3
  go_wp2_with fail
  refine wp_region_h (ET w N (Value.slice (some ⟨g, 0, none⟩) (k + 1) cap) (us ++ [(l, Value.slice al ll cl)]) x ad m cd)
    [some (some (Value.slice (some ⟨g, 0, none⟩) (k + 1) cap)), some (some (.pointer (some ⟨w.heap.size, 0, none⟩))), some (some (.int .i64 x.f)), some (some (.pointer (some ⟨w.heap.size, 1, none⟩))), some (some (.int .i64 x.c)), some (some (.pointer (some ⟨w.heap.size, 2, none⟩))), some (some (.slice ad m cd)), none, some none, none, none, some none]
    [3, 3, 1, 3, 1, 3, 0, 0, 3, 0, 0, 3] (by kernel_rfl) (by kernel_rfl) [7, 9, 10] [7, 8, 9, 10, 11] rfl rfl (by kernel_rfl) (by kernel_rfl) (HJ3.out.up (Below.refl _ _).drew) ?_
  refine gF_step (by rfl) (fun h u K hL hT hK => ?_) ?_
  · go_simp
    exact hK _ hT
  simp only [Act.put, List.setIfInBounds_toArray, List.set_cons_zero, List.set_cons_succ]
  refine gF_step (by rfl) (fun h u K hL hT hK => ?_) ?_
  · go_simp
    exact hK _ hT
  simp only [Act.put, List.setIfInBounds_toArray, List.set_cons_zero, List.set_cons_succ]
  refine gF_step (by rfl) (fun h u K hL hT hK => ?_) ?_
  · obtain ⟨x0, x1, x2⟩ := (hT.js (by omega)).xs
    go_simp
    exact hK _ hT
  simp only [Act.put, List.setIfInBounds_toArray, List.set_cons_zero, List.set_cons_succ]
  refine gF_step (by rfl) (fun h u K hL hT hK => ?_) ?_
  · go_simp
    exact hK _ hT
  simp only [Act.put, List.setIfInBounds_toArray, List.set_cons_zero, List.set_cons_succ]
  refine gF_step (by rfl) (fun h u K hL hT hK => ?_) ?_
  · obtain ⟨x0, x1, x2⟩ := (hT.js (by omega)).xs
    go_simp
    exact hK _ hT
  simp only [Act.put, List.setIfInBounds_toArray, List.set_cons_zero, List.set_cons_succ]
  refine gF_step (by rfl) (fun h u K hL hT hK => ?_) ?_
  · go_simp
    exact hK _ hT
  simp only [Act.put, List.setIfInBounds_toArray, List.set_cons_zero, List.set_cons_succ]
  refine gF_step (by rfl) (fun h u K hL hT hK => ?_) ?_
  · obtain ⟨x0, x1, x2⟩ := (hT.js (by omega)).xs
    go_simp
    exact hK _ hT
  simp only [Act.put, List.setIfInBounds_toArray, List.set_cons_zero, List.set_cons_succ]
  refine gD_step (fun d => ∃ a n c, d = .slice a n c) ⟨_, none, 0, 0, rfl⟩ (by rfl) (fun u K hT hK => ?_) (fun d hd => ?_)
  · have hT0 : JS w N (Value.slice (some ⟨g, 0, none⟩) (k + 1) cap) (us ++ [(l, Value.slice al ll cl)]) x ad m cd u := hT
    go_simp
    go_at_call 70
    (with_reducible refine Calls.mono (clone_any u ad m cd x.d hT0.src hn (by omega)) ?_)
    rintro e u2 ⟨d, rfl, hbuf, hu⟩
    obtain ⟨da, dc, hdv, -⟩ := hbuf.form
    exact hK _ _ ⟨da, _, dc, hdv⟩ ⟨hT0.up hu, buf_down hbuf hT0.below.size⟩
  obtain ⟨da, dn, dc, rfl⟩ := hd
  simp only [Act.put, List.setIfInBounds_toArray, List.set_cons_zero, List.set_cons_succ]
  refine gG_step (v := .agg #[.int .i64 x.f, .int .i64 x.c, .slice da dn dc]) (by rfl) (fun h' u K hT hK => ?_) ?_
  · go_simp
    exact hK _ hT
  simp only [Act.put, List.setIfInBounds_toArray, List.set_cons_zero, List.set_cons_succ]
  refine gD_step (fun y => ∃ C, y = .slice (some ⟨C, 0, none⟩) 1 1) ⟨_, 0, rfl⟩ (by rfl) (fun u K hT hK => ?_) (fun y hy => ?_)
  · have hT0 : JS w N (Value.slice (some ⟨g, 0, none⟩) (k + 1) cap) (us ++ [(l, Value.slice al ll cl)]) x ad m cd u ∧ Buf u (.slice da dn dc) w.heap.size x.d := hT
    refine kUpon_slice_to 53 1 _ rfl [(0, .agg #[.int .i64 x.f, .int .i64 x.c, .slice da dn dc])] rfl _ _ (one_tok u x.f x.c (.slice da dn dc)) (hK _ _ ⟨_, rfl⟩ ?_)
    exact ⟨⟨hT0.1.up (below_new _ _), buf_up hT0.2 (below_new _ _)⟩, _, rfl, _, _, heap_last _ _⟩
  obtain ⟨C, rfl⟩ := hy
  simp only [Act.put, List.setIfInBounds_toArray, List.set_cons_zero, List.set_cons_succ]
  refine gD_step (fun y => ∃ g n cap, y = .slice (some ⟨g, 0, none⟩) n cap) ⟨_, 0, 0, 0, rfl⟩ (by rfl) (fun u K hT hK => ?_) (fun y hy => ?_)
  · obtain ⟨⟨hJ, hbuf⟩, C', e, T', f', hC⟩ := hT
    simp only [Value.slice.injEq, Option.some.injEq, Addr.mk.injEq, and_true] at e
    subst e
    have hNu : N ≤ u.heap.size := Nat.le_trans hN hJ.below.size
    have hdk : ∀ k, (Value.slice da dn dc).ownBlock = some k → w.heap.size ≤ k := fun k hk => (buf_own hbuf k hk).1
    obtain ⟨v', u', hrun, ho, hg, hown⟩ := append_tok u _ (Value.slice (some ⟨g, 0, none⟩) (k + 1) cap) N (us ++ [(l, Value.slice al ll cl)]) C x (.slice da dn dc) T' f' 1 hJ.own hNu hC (buf_down hbuf hN) (by
      cases hb : (Value.slice da dn dc).ownBlock with
      | none => exact .inl rfl
      | some k =>
        have h1 := hdk k hb
        exact .inr (fun e => by have := (H0.out.own k e.symm).2; omega)) (fun p hp => by
      cases hb : p.2.ownBlock with
      | none => exact .inl rfl
      | some k =>
        have h1 := (H0.out.owns hp k hb).2
        exact .inr (fun e => by have := hdk k e.symm; omega)) (by have := HL.out; simp only [List.length_append, List.length_cons, List.length_nil] at this ⊢; omega)
    rcases ho.form with ⟨_, h0⟩ | ⟨q, c', hv', -⟩
    · exact absurd h0 (by simp)
    refine kUpon_append 53 (.tmp 9) (.tmp 18) rfl hrun (hK _ _ ⟨q, _, c', hv'⟩ ?_)
    refine ⟨ho, KeepT.from_below hJ.below (KeepT.of_grown hg), ?_, hdk⟩
    rcases hown with e | e
    · exact .inl e
    · exact .inr ⟨_, e, hJ.below.size⟩
  obtain ⟨q, vn, vc, rfl⟩ := hy
  simp only [Act.put, List.setIfInBounds_toArray, List.set_cons_zero, List.set_cons_succ]
  refine gG_step (v := .slice (some ⟨q, 0, none⟩) vn vc) (by rfl) (fun h' u K hT hK => ?_) ?_
  · go_simp
    exact hK _ hT
  simp only [Act.put, List.setIfInBounds_toArray, List.set_cons_zero, List.set_cons_succ]
  refine g_nil (fun w4 hT4 => ?_)
  obtain ⟨h41, h42, h43, h44⟩ := hT4
  have HP := hide (new_post HF.out h41 h42 h43 h44)
  clear h41 h42 h43 h44 HJ3 HF H0 HL
  go_wp2
  go_ret
  exact HP.out
set_option maxHeartbeats 1600000 in
theorem join_3 (w : World) (N g n cap : Nat) (us : List TV) (l : Tok) (dv : Value) (x : Tok) (ad : Option Addr) (m cd : Nat) (h : OwnT w N (.slice (some ⟨g, 0, none⟩) n cap) (us ++ [(l, dv)])) (hN : N ≤ w.heap.size) (hx : SrcB w ad m x.d) (hm : m ≤ cd) (hcd : cd ≤ 9223372036854775807) (hn : ad = none → m = 0) (hus : us.length ≤ 1000000) (hl : l.d.length ≤ 1000000) (hmb : m ≤ 1000000) (hf : fuse l x = none) (h1 : l.isB = false) (h3 : l.isK = true) (h4 : x.isK = false) :
    Calls Tryd.prog 53 #[.slice (some ⟨g, 0, none⟩) n cap, tokV x ad m cd] w (JoinP w N (.slice (some ⟨g, 0, none⟩) n cap) (us ++ [(l, dv)]) x) := by
  have hxl := hx.1
  have HJ := hide (JS.enter (cd := cd) h hx)
  have H0 := hide h
  have hbuf := h.buf (l, dv) (by simp)
  obtain ⟨al, cl, hdv, -⟩ := hbuf.form
  obtain ⟨hnn, -⟩ := load_last h
  have HIl := hide (fun u : World => isB_c u l al l.d.length cl rfl)
  have HIx := hide (fun u : World => isB_c u x ad m cd hxl)
  have HKl := hide (fun u : World => isK_c u l al l.d.length cl rfl)
  have HKx := hide (fun u : World => isK_c u x ad m cd hxl)
  obtain ⟨k, hk⟩ : ∃ k, k = us.length := ⟨_, rfl⟩
  have Hk := hide hk
  rw [← hk] at hus hnn
  subst hnn
  obtain ⟨ll, hll⟩ : ∃ ll, ll = l.d.length := ⟨_, rfl⟩
  have Hll := hide hll
  rw [← hll] at HIl HKl hl hdv
  simp only at hdv
  subst hdv
  have i2 : (k : Int) < (k : Int) + 1 := by omega
  have HL : Hid ((us ++ [(l, Value.slice al ll cl)]).length ≤ 1000001) := hide (by simp only [List.length_append, List.length_cons, List.length_nil]; omega)
  have HF := hide (joinT_none (us := us) (dv := .slice al ll cl) hf)
  rw [h1] at HIl
  rw [h3] at HKl
  rw [h4] at HKx
  clear hk h hx hbuf hll hf
  unfold tokV at *
  obtain ⟨r0, r1, r2, rf⟩ := last_cells HJ.out.own Hk.out
  go_enter Tryd.func53, Tryd.ntmps53
  go_wp2_with fail
  refine (HIl.out _).mono ?_
  rintro e w2 ⟨rfl, hb2⟩
  have HJ3 := hide (HJ.out.up hb2)
  clear hb2 HJ r0 r1 r2 rf
  go_wp2_with fail
  refine wp_region_keep (fun u => JS w N (Value.slice (some ⟨g, 0, none⟩) (k + 1) cap) (us ++ [(l, Value.slice al ll cl)]) x ad m cd u) (by kernel_rfl) (by kernel_rfl) (HJ3.out.up (Below.refl _ _).drew) ?_
  repeat (first
    | (refine keep_not (by rfl) ?_
       simp only [Act.put, List.setIfInBounds_toArray, List.set_cons_zero, List.set_cons_succ])
    | (refine keep_step (v := ?_) (by rfl) (fun u K hS hK => ?_) ?_
       rotate_left
       · obtain ⟨x0, x1, x2⟩ := hS.xs
         obtain ⟨r0, r1, r2, rf⟩ := last_cells hS.own Hk.out
         (go_simp; first
           | (go_at_call 59; (with_reducible refine Calls.mono (HKl.out _) ?_); rintro e u2 ⟨rfl, hu⟩; exact hK _ (hS.up hu))
           | (go_at_call 59; (with_reducible refine Calls.mono (HKx.out _) ?_); rintro e u2 ⟨rfl, hu⟩; exact hK _ (hS.up hu))
           | (with_reducible exact hK _ hS))
       simp only [Act.put, List.setIfInBounds_toArray, List.set_cons_zero, List.set_cons_succ]))
  refine keep_nil (fun w3 hS3 => ?_)
  have HJ3 := hide hS3
  clear hS3
  go_wp2_with fail
  refine wp_region_h (ET w N (Value.slice (some ⟨g, 0, none⟩) (k + 1) cap) (us ++ [(l, Value.slice al ll cl)]) x ad m cd)
    [some (some (Value.slice (some ⟨g, 0, none⟩) (k + 1) cap)), some (some (.pointer (some ⟨w.heap.size, 0, none⟩))), some (some (.int .i64 x.f)), some (some (.pointer (some ⟨w.heap.size, 1, none⟩))), some (some (.int .i64 x.c)), some (some (.pointer (some ⟨w.heap.size, 2, none⟩))), some (some (.slice ad m cd)), none, some none, none, none, some none]
    [3, 3, 1, 3, 1, 3, 0, 0, 3, 0, 0, 3] (by kernel_rfl) (by kernel_rfl) [7, 9, 10] [7, 8, 9, 10, 11] rfl rfl (by kernel_rfl) (by kernel_rfl) (HJ3.out.up (Below.refl _ _).drew) ?_
  refine gF_step (by rfl) (fun h u K hL hT hK => ?_) ?_
  · go_simp
    exact hK _ hT
  simp only [Act.put, List.setIfInBounds_toArray, List.set_cons_zero, List.set_cons_succ]
  refine gF_step (by rfl) (fun h u K hL hT hK => ?_) ?_
  · go_simp
    exact hK _ hT
  simp only [Act.put, List.setIfInBounds_toArray, List.set_cons_zero, List.set_cons_succ]
  refine gF_step (by rfl) (fun h u K hL hT hK => ?_) ?_
  · obtain ⟨x0, x1, x2⟩ := (hT.js (by omega)).xs
    go_simp
    exact hK _ hT
  simp only [Act.put, List.setIfInBounds_toArray, List.set_cons_zero, List.set_cons_succ]
  refine gF_step (by rfl) (fun h u K hL hT hK => ?_) ?_
  · go_simp
    exact hK _ hT
  simp only [Act.put, List.setIfInBounds_toArray, List.set_cons_zero, List.set_cons_succ]
  refine gF_step (by rfl) (fun h u K hL hT hK => ?_) ?_
  · obtain ⟨x0, x1, x2⟩ := (hT.js (by omega)).xs
    go_simp
    exact hK _ hT
  simp only [Act.put, List.setIfInBounds_toArray, List.set_cons_zero, List.set_cons_succ]
  refine gF_step (by rfl) (fun h u K hL hT hK => ?_) ?_
  · go_simp
    exact hK _ hT
  simp only [Act.put, List.setIfInBounds_toArray, List.set_cons_zero, List.set_cons_succ]
  refine gF_step (by rfl) (fun h u K hL hT hK => ?_) ?_
  · obtain ⟨x0, x1, x2⟩ := (hT.js (by omega)).xs
    go_simp
    exact hK _ hT
  simp only [Act.put, List.setIfInBounds_toArray, List.set_cons_zero, List.set_cons_succ]
  refine gD_step (fun d => ∃ a n c, d = .slice a n c) ⟨_, none, 0, 0, rfl⟩ (by rfl) (fun u K hT hK => ?_) (fun d hd => ?_)
  · have hT0 : JS w N (Value.slice (some ⟨g, 0, none⟩) (k + 1) cap) (us ++ [(l, Value.slice al ll cl)]) x ad m cd u := hT
    go_simp
    go_at_call 70
    (with_reducible refine Calls.mono (clone_any u ad m cd x.d hT0.src hn (by omega)) ?_)
    rintro e u2 ⟨d, rfl, hbuf, hu⟩
    obtain ⟨da, dc, hdv, -⟩ := hbuf.form
    exact hK _ _ ⟨da, _, dc, hdv⟩ ⟨hT0.up hu, buf_down hbuf hT0.below.size⟩
  obtain ⟨da, dn, dc, rfl⟩ := hd
  simp only [Act.put, List.setIfInBounds_toArray, List.set_cons_zero, List.set_cons_succ]
  refine gG_step (v := .agg #[.int .i64 x.f, .int .i64 x.c, .slice da dn dc]) (by rfl) (fun h' u K hT hK => ?_) ?_
  · go_simp
    exact hK _ hT
  simp only [Act.put, List.setIfInBounds_toArray, List.set_cons_zero, List.set_cons_succ]
  refine gD_step (fun y => ∃ C, y = .slice (some ⟨C, 0, none⟩) 1 1) ⟨_, 0, rfl⟩ (by rfl) (fun u K hT hK => ?_) (fun y hy => ?_)
  · have hT0 : JS w N (Value.slice (some ⟨g, 0, none⟩) (k + 1) cap) (us ++ [(l, Value.slice al ll cl)]) x ad m cd u ∧ Buf u (.slice da dn dc) w.heap.size x.d := hT
    refine kUpon_slice_to 53 1 _ rfl [(0, .agg #[.int .i64 x.f, .int .i64 x.c, .slice da dn dc])] rfl _ _ (one_tok u x.f x.c (.slice da dn dc)) (hK _ _ ⟨_, rfl⟩ ?_)
    exact ⟨⟨hT0.1.up (below_new _ _), buf_up hT0.2 (below_new _ _)⟩, _, rfl, _, _, heap_last _ _⟩
  obtain ⟨C, rfl⟩ := hy
  simp only [Act.put, List.setIfInBounds_toArray, List.set_cons_zero, List.set_cons_succ]
  refine gD_step (fun y => ∃ g n cap, y = .slice (some ⟨g, 0, none⟩) n cap) ⟨_, 0, 0, 0, rfl⟩ (by rfl) (fun u K hT hK => ?_) (fun y hy => ?_)
  · obtain ⟨⟨hJ, hbuf⟩, C', e, T', f', hC⟩ := hT
    simp only [Value.slice.injEq, Option.some.injEq, Addr.mk.injEq, and_true] at e
    subst e
    have hNu : N ≤ u.heap.size := Nat.le_trans hN hJ.below.size
    have hdk : ∀ k, (Value.slice da dn dc).ownBlock = some k → w.heap.size ≤ k := fun k hk => (buf_own hbuf k hk).1
    obtain ⟨v', u', hrun, ho, hg, hown⟩ := append_tok u _ (Value.slice (some ⟨g, 0, none⟩) (k + 1) cap) N (us ++ [(l, Value.slice al ll cl)]) C x (.slice da dn dc) T' f' 1 hJ.own hNu hC (buf_down hbuf hN) (by
      cases hb : (Value.slice da dn dc).ownBlock with
      | none => exact .inl rfl
      | some k =>
        have h1 := hdk k hb
        exact .inr (fun e => by have := (H0.out.own k e.symm).2; omega)) (fun p hp => by
      cases hb : p.2.ownBlock with
      | none => exact .inl rfl
      | some k =>
        have h1 := (H0.out.owns hp k hb).2
        exact .inr (fun e => by have := hdk k e.symm; omega)) (by have := HL.out; simp only [List.length_append, List.length_cons, List.length_nil] at this ⊢; omega)
    rcases ho.form with ⟨_, h0⟩ | ⟨q, c', hv', -⟩
    · exact absurd h0 (by simp)
    refine kUpon_append 53 (.tmp 9) (.tmp 18) rfl hrun (hK _ _ ⟨q, _, c', hv'⟩ ?_)
    refine ⟨ho, KeepT.from_below hJ.below (KeepT.of_grown hg), ?_, hdk⟩
    rcases hown with e | e
    · exact .inl e
    · exact .inr ⟨_, e, hJ.below.size⟩
  obtain ⟨q, vn, vc, rfl⟩ := hy
  simp only [Act.put, List.setIfInBounds_toArray, List.set_cons_zero, List.set_cons_succ]
  refine gG_step (v := .slice (some ⟨q, 0, none⟩) vn vc) (by rfl) (fun h' u K hT hK => ?_) ?_
  · go_simp
    exact hK _ hT
  simp only [Act.put, List.setIfInBounds_toArray, List.set_cons_zero, List.set_cons_succ]
  refine g_nil (fun w4 hT4 => ?_)
  obtain ⟨h41, h42, h43, h44⟩ := hT4
  have HP := hide (new_post HF.out h41 h42 h43 h44)
  clear h41 h42 h43 h44 HJ3 HF H0 HL
  go_wp2
  go_ret
  exact HP.out
set_option maxHeartbeats 1600000 in
theorem join_4 (w : World) (N g n cap : Nat) (us : List TV) (l : Tok) (dv : Value) (x : Tok) (ad : Option Addr) (m cd : Nat) (h : OwnT w N (.slice (some ⟨g, 0, none⟩) n cap) (us ++ [(l, dv)])) (hN : N ≤ w.heap.size) (hx : SrcB w ad m x.d) (hm : m ≤ cd) (hcd : cd ≤ 9223372036854775807) (hn : ad = none → m = 0) (hus : us.length ≤ 1000000) (hl : l.d.length ≤ 1000000) (hmb : m ≤ 1000000) (hf : fuse l x = none) (h1 : l.isB = false) (h3 : l.isK = true) (h4 : x.isK = true) (h5 : x.f ≠ l.f + l.c) :
    Calls Tryd.prog 53 #[.slice (some ⟨g, 0, none⟩) n cap, tokV x ad m cd] w (JoinP w N (.slice (some ⟨g, 0, none⟩) n cap) (us ++ [(l, dv)]) x) := by
  have hxl := hx.1
  have HJ := hide (JS.enter (cd := cd) h hx)
  have H0 := hide h
  have hbuf := h.buf (l, dv) (by simp)
  obtain ⟨al, cl, hdv, -⟩ := hbuf.form
  obtain ⟨hnn, -⟩ := load_last h
  have HIl := hide (fun u : World => isB_c u l al l.d.length cl rfl)
  have HIx := hide (fun u : World => isB_c u x ad m cd hxl)
  have HKl := hide (fun u : World => isK_c u l al l.d.length cl rfl)
  have HKx := hide (fun u : World => isK_c u x ad m cd hxl)
  obtain ⟨k, hk⟩ : ∃ k, k = us.length := ⟨_, rfl⟩
  have Hk := hide hk
  rw [← hk] at hus hnn
  subst hnn
  obtain ⟨ll, hll⟩ : ∃ ll, ll = l.d.length := ⟨_, rfl⟩
  have Hll := hide hll
  rw [← hll] at HIl HKl hl hdv
  simp only at hdv
  subst hdv
  have i2 : (k : Int) < (k : Int) + 1 := by omega
  have HL : Hid ((us ++ [(l, Value.slice al ll cl)]).length ≤ 1000001) := hide (by simp only [List.length_append, List.length_cons, List.length_nil]; omega)
  have HF := hide (joinT_none (us := us) (dv := .slice al ll cl) hf)
  rw [h1] at HIl
  rw [h3] at HKl
  rw [h4] at HKx
  have e5 : (x.f == l.f + l.c) = false := by simpa using h5
  simp only [Tok.isK, decide_eq_true_eq] at h3 h4
  have hw : IntKind.i64.wrap (l.f + l.c) = l.f + l.c := IntWalk.i64_in _ (by omega)
  clear hk h hx hbuf hll hf
  unfold tokV at *
  obtain ⟨r0, r1, r2, rf⟩ := last_cells HJ.out.own Hk.out
  go_enter Tryd.func53, Tryd.ntmps53
  go_wp2_with fail
  refine (HIl.out _).mono ?_
  rintro e w2 ⟨rfl, hb2⟩
  have HJ3 := hide (HJ.out.up hb2)
  clear hb2 HJ r0 r1 r2 rf
  go_wp2_with fail
  refine wp_region_keep (fun u => JS w N (Value.slice (some ⟨g, 0, none⟩) (k + 1) cap) (us ++ [(l, Value.slice al ll cl)]) x ad m cd u) (by kernel_rfl) (by kernel_rfl) (HJ3.out.up (Below.refl _ _).drew) ?_
  repeat (first
    | (refine keep_not (by rfl) ?_
       simp only [Act.put, List.setIfInBounds_toArray, List.set_cons_zero, List.set_cons_succ])
    | (refine keep_step (v := ?_) (by rfl) (fun u K hS hK => ?_) ?_
       rotate_left
       · obtain ⟨x0, x1, x2⟩ := hS.xs
         obtain ⟨r0, r1, r2, rf⟩ := last_cells hS.own Hk.out
         (go_simp; first
           | (go_at_call 59; (with_reducible refine Calls.mono (HKl.out _) ?_); rintro e u2 ⟨rfl, hu⟩; exact hK _ (hS.up hu))
           | (go_at_call 59; (with_reducible refine Calls.mono (HKx.out _) ?_); rintro e u2 ⟨rfl, hu⟩; exact hK _ (hS.up hu))
           | (with_reducible exact hK _ hS))
       simp only [Act.put, List.setIfInBounds_toArray, List.set_cons_zero, List.set_cons_succ]))
  refine keep_nil (fun w3 hS3 => ?_)
  have HJ3 := hide hS3
  clear hS3
  go_wp2_with fail
  refine wp_region_h (ET w N (Value.slice (some ⟨g, 0, none⟩) (k + 1) cap) (us ++ [(l, Value.slice al ll cl)]) x ad m cd)
    [some (some (Value.slice (some ⟨g, 0, none⟩) (k + 1) cap)), some (some (.pointer (some ⟨w.heap.size, 0, none⟩))), some (some (.int .i64 x.f)), some (some (.pointer (some ⟨w.heap.size, 1, none⟩))), some (some (.int .i64 x.c)), some (some (.pointer (some ⟨w.heap.size, 2, none⟩))), some (some (.slice ad m cd)), none, some none, none, none, some none]
    [3, 3, 1, 3, 1, 3, 0, 0, 3, 0, 0, 3] (by kernel_rfl) (by kernel_rfl) [7, 9, 10] [7, 8, 9, 10, 11] rfl rfl (by kernel_rfl) (by kernel_rfl) (HJ3.out.up (Below.refl _ _).drew) ?_
  refine gF_step (by rfl) (fun h u K hL hT hK => ?_) ?_
  · go_simp
    exact hK _ hT
  simp only [Act.put, List.setIfInBounds_toArray, List.set_cons_zero, List.set_cons_succ]
  refine gF_step (by rfl) (fun h u K hL hT hK => ?_) ?_
  · go_simp
    exact hK _ hT
  simp only [Act.put, List.setIfInBounds_toArray, List.set_cons_zero, List.set_cons_succ]
  refine gF_step (by rfl) (fun h u K hL hT hK => ?_) ?_
  · obtain ⟨x0, x1, x2⟩ := (hT.js (by omega)).xs
    go_simp
    exact hK _ hT
  simp only [Act.put, List.setIfInBounds_toArray, List.set_cons_zero, List.set_cons_succ]
  refine gF_step (by rfl) (fun h u K hL hT hK => ?_) ?_
  · go_simp
    exact hK _ hT
  simp only [Act.put, List.setIfInBounds_toArray, List.set_cons_zero, List.set_cons_succ]
  refine gF_step (by rfl) (fun h u K hL hT hK => ?_) ?_
  · obtain ⟨x0, x1, x2⟩ := (hT.js (by omega)).xs
    go_simp
    exact hK _ hT
  simp only [Act.put, List.setIfInBounds_toArray, List.set_cons_zero, List.set_cons_succ]
  refine gF_step (by rfl) (fun h u K hL hT hK => ?_) ?_
  · go_simp
    exact hK _ hT
  simp only [Act.put, List.setIfInBounds_toArray, List.set_cons_zero, List.set_cons_succ]
  refine gF_step (by rfl) (fun h u K hL hT hK => ?_) ?_
  · obtain ⟨x0, x1, x2⟩ := (hT.js (by omega)).xs
    go_simp
    exact hK _ hT
  simp only [Act.put, List.setIfInBounds_toArray, List.set_cons_zero, List.set_cons_succ]
  refine gD_step (fun d => ∃ a n c, d = .slice a n c) ⟨_, none, 0, 0, rfl⟩ (by rfl) (fun u K hT hK => ?_) (fun d hd => ?_)
  · have hT0 : JS w N (Value.slice (some ⟨g, 0, none⟩) (k + 1) cap) (us ++ [(l, Value.slice al ll cl)]) x ad m cd u := hT
    go_simp
    go_at_call 70
    (with_reducible refine Calls.mono (clone_any u ad m cd x.d hT0.src hn (by omega)) ?_)
    rintro e u2 ⟨d, rfl, hbuf, hu⟩
    obtain ⟨da, dc, hdv, -⟩ := hbuf.form
    exact hK _ _ ⟨da, _, dc, hdv⟩ ⟨hT0.up hu, buf_down hbuf hT0.below.size⟩
  obtain ⟨da, dn, dc, rfl⟩ := hd
  simp only [Act.put, List.setIfInBounds_toArray, List.set_cons_zero, List.set_cons_succ]
  refine gG_step (v := .agg #[.int .i64 x.f, .int .i64 x.c, .slice da dn dc]) (by rfl) (fun h' u K hT hK => ?_) ?_
  · go_simp
    exact hK _ hT
  simp only [Act.put, List.setIfInBounds_toArray, List.set_cons_zero, List.set_cons_succ]
  refine gD_step (fun y => ∃ C, y = .slice (some ⟨C, 0, none⟩) 1 1) ⟨_, 0, rfl⟩ (by rfl) (fun u K hT hK => ?_) (fun y hy => ?_)
  · have hT0 : JS w N (Value.slice (some ⟨g, 0, none⟩) (k + 1) cap) (us ++ [(l, Value.slice al ll cl)]) x ad m cd u ∧ Buf u (.slice da dn dc) w.heap.size x.d := hT
    refine kUpon_slice_to 53 1 _ rfl [(0, .agg #[.int .i64 x.f, .int .i64 x.c, .slice da dn dc])] rfl _ _ (one_tok u x.f x.c (.slice da dn dc)) (hK _ _ ⟨_, rfl⟩ ?_)
    exact ⟨⟨hT0.1.up (below_new _ _), buf_up hT0.2 (below_new _ _)⟩, _, rfl, _, _, heap_last _ _⟩
  obtain ⟨C, rfl⟩ := hy
  simp only [Act.put, List.setIfInBounds_toArray, List.set_cons_zero, List.set_cons_succ]
  refine gD_step (fun y => ∃ g n cap, y = .slice (some ⟨g, 0, none⟩) n cap) ⟨_, 0, 0, 0, rfl⟩ (by rfl) (fun u K hT hK => ?_) (fun y hy => ?_)
  · obtain ⟨⟨hJ, hbuf⟩, C', e, T', f', hC⟩ := hT
    simp only [Value.slice.injEq, Option.some.injEq, Addr.mk.injEq, and_true] at e
    subst e
    have hNu : N ≤ u.heap.size := Nat.le_trans hN hJ.below.size
    have hdk : ∀ k, (Value.slice da dn dc).ownBlock = some k → w.heap.size ≤ k := fun k hk => (buf_own hbuf k hk).1
    obtain ⟨v', u', hrun, ho, hg, hown⟩ := append_tok u _ (Value.slice (some ⟨g, 0, none⟩) (k + 1) cap) N (us ++ [(l, Value.slice al ll cl)]) C x (.slice da dn dc) T' f' 1 hJ.own hNu hC (buf_down hbuf hN) (by
      cases hb : (Value.slice da dn dc).ownBlock with
      | none => exact .inl rfl
      | some k =>
        have h1 := hdk k hb
        exact .inr (fun e => by have := (H0.out.own k e.symm).2; omega)) (fun p hp => by
      cases hb : p.2.ownBlock with
      | none => exact .inl rfl
      | some k =>
        have h1 := (H0.out.owns hp k hb).2
        exact .inr (fun e => by have := hdk k e.symm; omega)) (by have := HL.out; simp only [List.length_append, List.length_cons, List.length_nil] at this ⊢; omega)
    rcases ho.form with ⟨_, h0⟩ | ⟨q, c', hv', -⟩
    · exact absurd h0 (by simp)
    refine kUpon_append 53 (.tmp 9) (.tmp 18) rfl hrun (hK _ _ ⟨q, _, c', hv'⟩ ?_)
    refine ⟨ho, KeepT.from_below hJ.below (KeepT.of_grown hg), ?_, hdk⟩
    rcases hown with e | e
    · exact .inl e
    · exact .inr ⟨_, e, hJ.below.size⟩
  obtain ⟨q, vn, vc, rfl⟩ := hy
  simp only [Act.put, List.setIfInBounds_toArray, List.set_cons_zero, List.set_cons_succ]
  refine gG_step (v := .slice (some ⟨q, 0, none⟩) vn vc) (by rfl) (fun h' u K hT hK => ?_) ?_
  · go_simp
    exact hK _ hT
  simp only [Act.put, List.setIfInBounds_toArray, List.set_cons_zero, List.set_cons_succ]
  refine g_nil (fun w4 hT4 => ?_)
  obtain ⟨h41, h42, h43, h44⟩ := hT4
  have HP := hide (new_post HF.out h41 h42 h43 h44)
  clear h41 h42 h43 h44 HJ3 HF H0 HL
  go_wp2
  go_ret
  exact HP.out
def CT (w : World) (N g n cap : Nat) (us : List TV) (l : Tok) (dv : Value) (x : Tok) (ad : Option Addr) (m cd : Nat) : List Value → World → Prop
  | [], u => JS w N (.slice (some ⟨g, 0, none⟩) n cap) (us ++ [(l, dv)]) x ad m cd u
  | [_], u => OwnT u N (.slice (some ⟨g, 0, none⟩) n cap) (us ++ [(⟨l.f, l.c + x.c, l.d⟩, dv)]) ∧ KeepT w (.slice (some ⟨g, 0, none⟩) n cap) (us ++ [(l, dv)]) u
  | _, _ => False
theorem isK_not {t : Tok} (h : t.isK = true) : t.isB = false := by
  simp only [Tok.isK, decide_eq_true_eq] at h
  simp only [Tok.isB, decide_eq_false_iff_not]
  omega
theorem isB_not {t : Tok} (h : t.isB = true) : t.isK = false := by
  simp only [Tok.isB, decide_eq_true_eq] at h
  simp only [Tok.isK, decide_eq_false_iff_not]
  omega
theorem fuse_K {l x : Tok} (hl : l.isK = true) (hx : x.isK = true) (h : x.f = l.f + l.c) : fuse l x = some ⟨l.f, l.c + x.c, l.d⟩ := by
  unfold fuse
  rw [if_neg (by rw [isK_not hl]; simp), if_pos ⟨hl, hx, h⟩]
set_option maxHeartbeats 1600000 in
theorem join_K (w : World) (N g n cap : Nat) (us : List TV) (l : Tok) (dv : Value) (x : Tok) (ad : Option Addr) (m cd : Nat) (h : OwnT w N (.slice (some ⟨g, 0, none⟩) n cap) (us ++ [(l, dv)])) (hN : N ≤ w.heap.size) (hx : SrcB w ad m x.d) (hm : m ≤ cd) (hcd : cd ≤ 9223372036854775807) (hn : ad = none → m = 0) (hus : us.length ≤ 1000000) (hl : l.d.length ≤ 1000000) (hmb : m ≤ 1000000) (h3 : l.isK = true) (h4 : x.isK = true) (h5 : x.f = l.f + l.c) :
    Calls Tryd.prog 53 #[.slice (some ⟨g, 0, none⟩) n cap, tokV x ad m cd] w (JoinP w N (.slice (some ⟨g, 0, none⟩) n cap) (us ++ [(l, dv)]) x) := by
  have hxl := hx.1
  have HJ := hide (JS.enter (cd := cd) h hx)
  have H0 := hide h
  have hbuf := h.buf (l, dv) (by simp)
  obtain ⟨al, cl, hdv, -⟩ := hbuf.form
  obtain ⟨hnn, -⟩ := load_last h
  have HIl := hide (fun u : World => isB_c u l al l.d.length cl rfl)
  have HIx := hide (fun u : World => isB_c u x ad m cd hxl)
  have HKl := hide (fun u : World => isK_c u l al l.d.length cl rfl)
  have HKx := hide (fun u : World => isK_c u x ad m cd hxl)
  obtain ⟨k, hk⟩ : ∃ k, k = us.length := ⟨_, rfl⟩
  have Hk := hide hk
  rw [← hk] at hus hnn
  subst hnn
  obtain ⟨ll, hll⟩ : ∃ ll, ll = l.d.length := ⟨_, rfl⟩
  have Hll := hide hll
  rw [← hll] at HIl HKl hl hdv
  simp only at hdv
  subst hdv
  have i2 : (k : Int) < (k : Int) + 1 := by omega
  have HL : Hid ((us ++ [(l, Value.slice al ll cl)]).length ≤ 1000001) := hide (by simp only [List.length_append, List.length_cons, List.length_nil]; omega)
  have HF := hide (fuse_K h3 h4 h5)
  have h1 := isK_not h3
  rw [h1] at HIl
  rw [h3] at HKl
  rw [h4] at HKx
  have h5' := h5.symm
  clear h5
  simp only [Tok.isK, decide_eq_true_eq] at h3 h4
  have hw : IntKind.i64.wrap x.f = x.f := IntWalk.i64_in _ (by omega)
  have hw2 : IntKind.i64.wrap (l.c + x.c) = l.c + x.c := IntWalk.i64_in _ (by omega)
  have e6 : (x.f == x.f) = true := by simp
  clear hk h hx hbuf hll
  unfold tokV at *
  obtain ⟨r0, r1, r2, rf⟩ := last_cells HJ.out.own Hk.out
  go_enter Tryd.func53, Tryd.ntmps53
  go_wp2_with fail
  refine (HIl.out _).mono ?_
  rintro e w2 ⟨rfl, hb2⟩
  have HJ3 := hide (HJ.out.up hb2)
  clear hb2 HJ r0 r1 r2 rf
  go_wp2_with fail
  refine wp_region_keep (fun u => JS w N (Value.slice (some ⟨g, 0, none⟩) (k + 1) cap) (us ++ [(l, Value.slice al ll cl)]) x ad m cd u) (by kernel_rfl) (by kernel_rfl) (HJ3.out.up (Below.refl _ _).drew) ?_
  repeat (first
    | (refine keep_not (by rfl) ?_
       simp only [Act.put, List.setIfInBounds_toArray, List.set_cons_zero, List.set_cons_succ])
    | (refine keep_step (v := ?_) (by rfl) (fun u K hS hK => ?_) ?_
       rotate_left
       · obtain ⟨x0, x1, x2⟩ := hS.xs
         obtain ⟨r0, r1, r2, rf⟩ := last_cells hS.own Hk.out
         (go_simp; first
           | (go_at_call 59; (with_reducible refine Calls.mono (HKl.out _) ?_); rintro e u2 ⟨rfl, hu⟩; exact hK _ (hS.up hu))
           | (go_at_call 59; (with_reducible refine Calls.mono (HKx.out _) ?_); rintro e u2 ⟨rfl, hu⟩; exact hK _ (hS.up hu))
           | (with_reducible exact hK _ hS))
       simp only [Act.put, List.setIfInBounds_toArray, List.set_cons_zero, List.set_cons_succ]))
  refine keep_nil (fun w3 hS3 => ?_)
  have HJ3 := hide hS3
  clear hS3
  go_wp2_with fail
  refine wp_region_h (CT w N g (k + 1) cap us l (.slice al ll cl) x ad m cd)
    [some (some (Value.slice (some ⟨g, 0, none⟩) (k + 1) cap)), some (some (.int .i64 (k : Int))), some (some (.pointer (some ⟨g, k * 3, none⟩))), some (some (.pointer (some ⟨g, k * 3 + 1, none⟩))), some (some (.int .i64 l.c)), some (some (.pointer (some ⟨w.heap.size, 1, none⟩))), some (some (.int .i64 x.c)), some (some (.int .i64 (l.c + x.c))), some (some (.pointer (some ⟨g, k * 3, none⟩))), some (some (.pointer (some ⟨g, k * 3 + 1, none⟩))), none]
    [1, 1, 1, 1, 0, 1, 0, 1, 1, 1, 0] (by kernel_rfl) (by kernel_rfl) [10] [10] rfl rfl (by kernel_rfl) (by kernel_rfl) (HJ3.out.up (Below.refl _ _).drew) ?_
  refine gF_step (by rfl) (fun h u K hL hT hK => ?_) ?_
  · go_simp
    exact hK _ hT
  simp only [Act.put, List.setIfInBounds_toArray, List.set_cons_zero, List.set_cons_succ]
  refine gF_step (by rfl) (fun h u K hL hT hK => ?_) ?_
  · go_simp
    exact hK _ hT
  simp only [Act.put, List.setIfInBounds_toArray, List.set_cons_zero, List.set_cons_succ]
  refine gF_step (by rfl) (fun h u K hL hT hK => ?_) ?_
  · go_simp
    exact hK _ hT
  simp only [Act.put, List.setIfInBounds_toArray, List.set_cons_zero, List.set_cons_succ]
  refine gF_step (by rfl) (fun h u K hL hT hK => ?_) ?_
  · go_simp
    exact hK _ hT
  simp only [Act.put, List.setIfInBounds_toArray, List.set_cons_zero, List.set_cons_succ]
  refine gF_step (by rfl) (fun h u K hL hT hK => ?_) ?_
  · obtain rfl : h = [] := List.length_eq_zero_iff.1 (by omega)
    have hT0 : JS w N (Value.slice (some ⟨g, 0, none⟩) (k + 1) cap) (us ++ [(l, Value.slice al ll cl)]) x ad m cd u := hT
    obtain ⟨x0, x1, x2⟩ := hT0.xs
    obtain ⟨r0, r1, r2, rf⟩ := last_cells hT0.own Hk.out
    go_simp
    exact hK _ hT
  simp only [Act.put, List.setIfInBounds_toArray, List.set_cons_zero, List.set_cons_succ]
  refine gF_step (by rfl) (fun h u K hL hT hK => ?_) ?_
  · go_simp
    exact hK _ hT
  simp only [Act.put, List.setIfInBounds_toArray, List.set_cons_zero, List.set_cons_succ]
  refine gF_step (by rfl) (fun h u K hL hT hK => ?_) ?_
  · obtain rfl : h = [] := List.length_eq_zero_iff.1 (by omega)
    have hT0 : JS w N (Value.slice (some ⟨g, 0, none⟩) (k + 1) cap) (us ++ [(l, Value.slice al ll cl)]) x ad m cd u := hT
    obtain ⟨x0, x1, x2⟩ := hT0.xs
    obtain ⟨r0, r1, r2, rf⟩ := last_cells hT0.own Hk.out
    go_simp
    exact hK _ hT
  simp only [Act.put, List.setIfInBounds_toArray, List.set_cons_zero, List.set_cons_succ]
  refine gF_step (by rfl) (fun h u K hL hT hK => ?_) ?_
  · go_simp
    exact hK _ hT
  simp only [Act.put, List.setIfInBounds_toArray, List.set_cons_zero, List.set_cons_succ]
  refine gF_step (by rfl) (fun h u K hL hT hK => ?_) ?_
  · go_simp
    exact hK _ hT
  simp only [Act.put, List.setIfInBounds_toArray, List.set_cons_zero, List.set_cons_succ]
  refine gF_step (by rfl) (fun h u K hL hT hK => ?_) ?_
  · go_simp
    exact hK _ hT
  simp only [Act.put, List.setIfInBounds_toArray, List.set_cons_zero, List.set_cons_succ]
  refine gE_step (v := undef) (by rfl) (fun u K hT hK => ?_) ?_
  · have hT0 : JS w N (Value.slice (some ⟨g, 0, none⟩) (k + 1) cap) (us ++ [(l, Value.slice al ll cl)]) x ad m cd u := hT
    obtain ⟨r0, r1, r2, rf⟩ := last_cells hT0.own Hk.out
    have c3 := rf (k * 3 + 1)
    have hfin := OwnT.setC (l.c + x.c) hT0.own
    rw [← Hk.out] at hfin
    have hkeep : KeepT w (Value.slice (some ⟨g, 0, none⟩) (k + 1) cap) (us ++ [(l, Value.slice al ll cl)]) (u.setCell ⟨g, k * 3 + 1, none⟩ (.int .i64 (l.c + x.c))) := KeepT.set (KeepT.from_below hT0.below (KeepT.refl _ _ _)) rfl _ _
    go_simp
    exact hK _ ⟨hfin, hkeep⟩
  simp only [Act.put, List.setIfInBounds_toArray, List.set_cons_zero, List.set_cons_succ]
  refine g_nil (fun w4 hT4 => ?_)
  obtain ⟨h41, h42⟩ := hT4
  have HP := hide (join_post HF.out h41 h42 (.inl rfl))
  clear h41 h42 HJ3 HF H0
  go_wp2
  go_ret
  exact HP.out
theorem join_c (w : World) (N : Nat) (v : Value) (ps : List TV) (x : Tok) (ad : Option Addr) (m cd : Nat) (h : OwnT w N v ps) (hN : N ≤ w.heap.size) (hx : SrcB w ad m x.d) (hm : m ≤ cd) (hcd : cd ≤ 9223372036854775807) (hn : ad = none → m = 0) (hv : ps = [] → v = .slice none 0 0) (hus : ps.length ≤ 1000000) (hl : ∀ p ∈ ps, p.1.d.length ≤ 1000000) (hmb : m ≤ 1000000) :
    Calls Tryd.prog 53 #[v, tokV x ad m cd] w (JoinP w N v ps x) := by
  rcases List.eq_nil_or_concat ps with rfl | ⟨us, ⟨l, dv⟩, rfl⟩
  · rw [hv rfl]
    exact join_0 w N x ad m cd hN hx hm hcd hn hmb
  · rw [List.concat_eq_append] at *
    rcases h.form with ⟨_, h0⟩ | ⟨g, cap, rfl, -⟩
    · exact absurd h0 (by simp)
    simp only [List.length_append, List.length_cons, List.length_nil] at hus
    have hl' := hl (l, dv) (by simp)
    have tf : ∀ b : Bool, b = true ∨ b = false := fun b => by cases b <;> simp
    rcases tf l.isB with h1 | h1
    · rcases tf x.isB with h2 | h2
      · exact join_B w N g _ cap us l dv x ad m cd h hN hx hm hcd hn (by omega) hl' hmb h1 h2
      · refine join_1 w N g _ cap us l dv x ad m cd h hN hx hm hcd hn (by omega) hl' hmb ?_ h1 h2 (isB_not h1)
        unfold fuse
        rw [h2, isB_not h1]; simp
    · rcases tf l.isK with h3 | h3
      · rcases tf x.isK with h4 | h4
        · by_cases h5 : x.f = l.f + l.c
          · exact join_K w N g _ cap us l dv x ad m cd h hN hx hm hcd hn (by omega) hl' hmb h3 h4 h5
          · refine join_4 w N g _ cap us l dv x ad m cd h hN hx hm hcd hn (by omega) hl' hmb ?_ h1 h3 h4 h5
            unfold fuse
            rw [h1]; simp [h5]
        · refine join_3 w N g _ cap us l dv x ad m cd h hN hx hm hcd hn (by omega) hl' hmb ?_ h1 h3 h4
          unfold fuse
          rw [h1, h4]; simp
      · refine join_2 w N g _ cap us l dv x ad m cd h hN hx hm hcd hn (by omega) hl' hmb ?_ h1 h3
        unfold fuse
        rw [h1, h3]; simp
end Go.Proofs.YtkinpbhbgeiflaaDoor.Df
/- delta's window. -/
namespace Go.Proofs.YtkinpbhbgeiflaaDoor.Dg
set_option linter.unusedVariables false
set_option linter.unusedSimpArgs false
set_option maxRecDepth 100000
open Go.ChangeShapes Go.WideShapes Go.ChangeAt Go.RowKit
open Go.Proofs.YtkinpbhbgeiflaaDoor.Wu Go.Proofs.YtkinpbhbgeiflaaDoor.Sm Go.Proofs.YtkinpbhbgeiflaaDoor.Sh Go.Proofs.YtkinpbhbgeiflaaDoor.Ba Go.Proofs.YtkinpbhbgeiflaaDoor.Bp Go.Proofs.YtkinpbhbgeiflaaDoor.Rk Go.Proofs.YtkinpbhbgeiflaaDoor.Rh Go.Proofs.YtkinpbhbgeiflaaDoor.Rw Go.Proofs.YtkinpbhbgeiflaaDoor.Rb1 Go.Proofs.YtkinpbhbgeiflaaDoor.Ka Go.Proofs.YtkinpbhbgeiflaaDoor.Ke
open Go.Proofs.YtkinpbhbgeiflaaDoor.Wm (lo hi)
attribute [local go_sem] kUpon_value kUpon_skip kUpon_enter
/-- Where a slice of bytes begins, p on. -/
def shf (a : Option Addr) (c p : Nat) : Option Addr := if c = p then a else a.map (·.add p)
theorem add_zero (a : Addr) : a.add 0 = a := by
  obtain ⟨b, o, s⟩ := a
  cases s <;> simp [Addr.add]
theorem map_zero (a : Option Addr) : a.map (·.add 0) = a := by cases a <;> simp [add_zero]
theorem slice_h (u : World) (a : Option Addr) (m c q : Nat) (hq : q ≤ c) :
    Sem.run Tryd.prog (Instr.slice 22 (.slice a m c) none (some (.int .i64 (q : Int))) none) u = .ok (.slice a q c) u := by
  rw [run_slice_h u 22 a m c und_bs .i64 _ (by omega) (by omega), elem_bs, size_u8]
  simp only [Result.andThen, sliced, Nat.zero_mul, Nat.sub_zero, map_zero, ite_self, Int.toNat_natCast]
theorem slice_l (u : World) (a : Option Addr) (m c p : Nat) (hp : p ≤ m) :
    Sem.run Tryd.prog (Instr.slice 22 (.slice a m c) (some (.int .i64 (p : Int))) none none) u = .ok (.slice (shf a c p) (m - p) (c - p)) u := by
  rw [run_slice_l u 22 a m c und_bs .i64 _ (by omega) (by omega), elem_bs, size_u8]
  simp only [Result.andThen, sliced, Nat.mul_one, Int.toNat_natCast]
  rfl
theorem slice_1 (u : World) (a : Option Addr) (m c : Nat) (hp : 1 ≤ m) :
    Sem.run Tryd.prog (Instr.slice 22 (.slice a m c) (some (.int .i64 1)) none none) u = .ok (.slice (shf a c 1) (m - 1) (c - 1)) u := slice_l u a m c 1 hp
theorem slice_h1 (u : World) (a : Option Addr) (m c : Nat) (hq : 1 ≤ c) :
    Sem.run Tryd.prog (Instr.slice 22 (.slice a m c) none (some (.int .i64 1)) none) u = .ok (.slice a 1 c) u := slice_h u a m c 1 hq
theorem src_drop {w : World} {a : Option Addr} {m c p : Nat} {D : List Nat} (h : SrcB w a m D) (hp : p ≤ m) (hc : m ≤ c) : SrcB w (shf a c p) (m - p) (D.drop p) := by
  obtain ⟨hl, h8, b, off, ha, hcell⟩ := h
  refine ⟨by rw [List.length_drop, hl], all8_drop h8 _, b, off + p, fun h0 => ?_, fun j hj => ?_⟩
  · unfold shf
    rw [if_neg (by omega), ha (by omega)]
    simp [Addr.add_mid]
  · rw [Nat.add_assoc, hcell (p + j) (by omega)]
    simp only [List.getD, List.getElem?_drop]
theorem src_take {w : World} {a : Option Addr} {m q : Nat} {D : List Nat} (h : SrcB w a m D) (hq : q ≤ m) : SrcB w a q (D.take q) := by
  obtain ⟨hl, h8, b, off, ha, hcell⟩ := h
  refine ⟨by rw [List.length_take, hl]; omega, all8_take h8 _, b, off, fun h0 => ha (by omega), fun j hj => ?_⟩
  rw [hcell j (by omega)]
  simp only [List.getD, List.getElem?_take_of_lt hj]
theorem shf_none {a : Option Addr} {c p : Nat} (h : shf a c p = none) : a = none := by
  unfold shf at h
  split at h
  · exact h
  · cases a with
    | none => rfl
    | some x => simp at h
/-- A window: P's bytes at the beginning of the slice. -/
def winC (most : Nat) (a : Option Addr) (n c : Nat) (P : List Nat) : List Value := [.int .i64 (most : Int), .slice a n c, .int .i64 (P.length : Int), .int .u16 (lo (ints P)), .int .u16 (hi (ints P))]
def winV (most : Nat) (a : Option Addr) (n c : Nat) (P : List Nat) : Value := .agg (winC most a n c P).toArray
theorem take_min (R : List Nat) (m n : Nat) (h : R.length = n) : R.take (min m n) = R.take m := by
  subst h
  rcases Nat.le_total m R.length with h | h
  · rw [Nat.min_eq_left h]
  · rw [Nat.min_eq_right h, List.take_of_length_le (Nat.le_refl _), List.take_of_length_le h]
def sumV (P : List Nat) : Value := .agg #[.int .i64 (P.length : Int), .int .u16 (lo (ints P)), .int .u16 (hi (ints P))]
def zeroW : List Value := [.int .i64 0, .slice none 0 0, .int .i64 0, .int .u16 0, .int .u16 0]
theorem zero_win : (Tryd.prog.info? 120).bind (·.zero) = some (.agg zeroW.toArray) := by kernel_rfl
theorem built_win (most : Nat) (a : Option Addr) (n c : Nat) (P : List Nat) : Tryd.prog.built 120 [(0, .int .i64 (most : Int)), (1, .slice a n c), (2, .agg #[.int .i64 (P.length : Int), .int .u16 (lo (ints P)), .int .u16 (hi (ints P))])] = some (winC most a n c P).toArray := by
  refine built_struct 120 _ _ _ [(0, 1), (1, 1), (2, 3)] zeroW zero_win Tryd.underlying120 (by kernel_rfl) rfl _ ?_
  rw [fill_step _ _ [.int .i64 (most : Int)] 0 0 1 _ _ rfl rfl rfl (by simp [zeroW])]
  rw [fill_step _ _ [.slice a n c] 1 1 1 _ _ rfl rfl rfl (by simp [zeroW, spl])]
  rw [fill_step _ _ [.int .i64 (P.length : Int), .int .u16 (lo (ints P)), .int .u16 (hi (ints P))] 2 2 3 _ _ rfl rfl rfl (by simp [zeroW, spl]), fill_nil]
  rfl
theorem win_one (most : Nat) (a : Option Addr) (n c : Nat) (P : List Nat) : ∀ v ∈ winC most a n c P, v.oneCell' = true := by
  intro v hv
  simp only [winC, List.mem_cons, List.not_mem_nil, or_false] at hv
  rcases hv with rfl | rfl | rfl | rfl | rfl <;> rfl
theorem load_win {w : World} {S : Nat} {most : Nat} {a : Option Addr} {n c : Nat} {P : List Nat} {T : TypeId} {f : Nat × Nat} (h : w.heap[S]? = some (.cells (winC most a n c P).toArray T f)) : Sem.run Tryd.prog (loadVar 120 ⟨S, 0, none⟩) w = .ok (winV most a n c P) w :=
  load_all 120 h _ Tryd.underlying120 rfl (by kernel_rfl)
set_option maxHeartbeats 800000 in
theorem open_c (w : World) (a : Option Addr) (n c most : Nat) (R : List Nat) (hs : SrcB w a n R) (hc : n ≤ c) (hn : n < 2147483648) (hm : most ≤ 4096) :
    Calls Tryd.prog 50 #[.slice a n c, .int .i64 (most : Int)] w fun e w' => e = .returned (winV most a n c (R.take most)) ∧ Below w.heap.size w w' := by
  obtain ⟨q, hq⟩ : ∃ q, q = min most n := ⟨_, rfl⟩
  have hP := take_min R most n hs.1
  rw [← hq] at hP
  have hql : (R.take most).length = q := by rw [← hP, List.length_take, hs.1]; omega
  have hs0 := src_take (q := q) hs (by omega)
  rw [hP] at hs0
  have hsl := fun u : World => slice_h u a n c q (by omega)
  generalize R.take most = P at *
  have Hbu := hide (built_win most a n c P)
  have Hql := hide hql
  rw [hql] at Hbu
  have hw5 : (winC most a n c P).length = 5 := rfl
  have Hq := hide hq
  have hqn : q < 2147483648 := by omega
  clear hs hP hql hq hc
  have HB0 := hide (below_new w (.cells #[.int .i64 0, .slice none 0 0, .int .i64 0, .int .u16 0, .int .u16 0] 120))
  have HC0 := hide (heap_last w (.cells #[.int .i64 0, .slice none 0 0, .int .i64 0, .int .u16 0, .int .u16 0] 120))
  have hcase : (¬ ((n : Int) < (most : Int)) ∧ ¬ (n < most) ∧ most = q) ∨ ((n : Int) < (most : Int) ∧ n < most ∧ n = q) := by
    have := Hq.out
    by_cases h : n < most
    · exact .inr ⟨by omega, h, by omega⟩
    · exact .inl ⟨by omega, h, by omega⟩
  have HW := hide (fun (u : World) (hu : Below w.heap.size w u) => weak_b a q c P u ((hs0.below hu)) hqn)
  clear hs0 Hq
  rcases hcase with ⟨d1, d2, rfl⟩ | ⟨d1, d2, rfl⟩
  · go_enter Tryd.func50, Tryd.ntmps50
    go_wp2_with fail
    refine (HW.out _ HB0.out).mono ?_
    rintro e w2 ⟨rfl, hb2⟩
    have HB2 := hide (keepB hb2 (Nat.le_refl _) HB0.out)
    have HC2 := hide (below_blk hb2 (heap_lt HC0.out) HC0.out)
    clear hb2 HB0 HC0 HW
    go_wp2_with (first
      | (refine wpList_build_at rfl 120 _ rfl [(0, .int .i64 (most : Int)), (1, .slice a n c), (2, .agg #[.int .i64 (most : Int), .int .u16 (lo (ints P)), .int .u16 (hi (ints P))])] rfl _ Hbu.out ?_)
      | (refine wpList_store_all rfl 120 (.tmp 4) (.tmp 14) rfl w.heap.size (winC most a n c P).toArray _ 120 rfl rfl HC2.out (by rw [List.size_toArray, hw5]; rfl) (by rw [List.size_toArray, hw5]; kernel_rfl) (all_oneCell_toArray (win_one _ _ _ _ _)) ?_))
    intro w5 H5 HG5
    refine of_hid ?_
    have HB5 := hide (belowG HB2.out HG5.out (Nat.le_refl _) HB2.out.size)
    go_wp2
    refine bodyPost_ret (v := winV most a n c P) ?_ rfl ⟨rfl, HB5.out⟩
    have hl := load_win H5.out
    simp [results, Tryd.results50, asAddr, hl]
  · go_enter Tryd.func50, Tryd.ntmps50
    go_wp2_with fail
    refine (HW.out _ HB0.out).mono ?_
    rintro e w2 ⟨rfl, hb2⟩
    have HB2 := hide (keepB hb2 (Nat.le_refl _) HB0.out)
    have HC2 := hide (below_blk hb2 (heap_lt HC0.out) HC0.out)
    clear hb2 HB0 HC0 HW
    go_wp2_with (first
      | (refine wpList_build_at rfl 120 _ rfl [(0, .int .i64 (most : Int)), (1, .slice a n c), (2, .agg #[.int .i64 (n : Int), .int .u16 (lo (ints P)), .int .u16 (hi (ints P))])] rfl _ Hbu.out ?_)
      | (refine wpList_store_all rfl 120 (.tmp 4) (.tmp 14) rfl w.heap.size (winC most a n c P).toArray _ 120 rfl rfl HC2.out (by rw [List.size_toArray, hw5]; rfl) (by rw [List.size_toArray, hw5]; kernel_rfl) (all_oneCell_toArray (win_one _ _ _ _ _)) ?_))
    intro w5 H5 HG5
    refine of_hid ?_
    have HB5 := hide (belowG HB2.out HG5.out (Nat.le_refl _) HB2.out.size)
    go_wp2
    refine bodyPost_ret (v := winV most a n c P) ?_ rfl ⟨rfl, HB5.out⟩
    have hl := load_win H5.out
    simp [results, Tryd.results50, asAddr, hl]
end Go.Proofs.YtkinpbhbgeiflaaDoor.Dg
/- delta's window: its bytes, the one behind it, the next one. -/
namespace Go.Proofs.YtkinpbhbgeiflaaDoor.Dh
set_option linter.unusedVariables false
set_option linter.unusedSimpArgs false
set_option maxRecDepth 100000
open Go.ChangeShapes Go.WideShapes Go.ChangeAt Go.RowKit
open Go.Proofs.YtkinpbhbgeiflaaDoor.Wu Go.Proofs.YtkinpbhbgeiflaaDoor.Sm Go.Proofs.YtkinpbhbgeiflaaDoor.Sh Go.Proofs.YtkinpbhbgeiflaaDoor.Ba Go.Proofs.YtkinpbhbgeiflaaDoor.Bp Go.Proofs.YtkinpbhbgeiflaaDoor.Rk Go.Proofs.YtkinpbhbgeiflaaDoor.Rh Go.Proofs.YtkinpbhbgeiflaaDoor.Rw Go.Proofs.YtkinpbhbgeiflaaDoor.Rx Go.Proofs.YtkinpbhbgeiflaaDoor.Rb1 Go.Proofs.YtkinpbhbgeiflaaDoor.Ka Go.Proofs.YtkinpbhbgeiflaaDoor.Ke Go.Proofs.YtkinpbhbgeiflaaDoor.Dg
open Go.Proofs.YtkinpbhbgeiflaaDoor.Wm (lo hi)
attribute [local go_sem] kUpon_value kUpon_skip kUpon_enter
/-- A window in a block. -/
def WinAt (u : World) (S most : Nat) (a : Option Addr) (n c : Nat) (P : List Nat) : Prop := u.heap[S]? = some (.cells (winC most a n c P).toArray 120 (0, 0))
theorem WinAt.cs {u : World} {S most : Nat} {a : Option Addr} {n c : Nat} {P : List Nat} (h : WinAt u S most a n c P) : u.cell? ⟨S, 0, none⟩ = some (.int .i64 (most : Int)) ∧ u.cell? ⟨S, 1, none⟩ = some (.slice a n c) ∧ u.cell? ⟨S, 2, none⟩ = some (.int .i64 (P.length : Int)) ∧ u.cell? ⟨S, 2 + 1, none⟩ = some (.int .u16 (lo (ints P))) ∧ u.cell? ⟨S, 2 + 2, none⟩ = some (.int .u16 (hi (ints P))) :=
  ⟨blk_cell h rfl, blk_cell h rfl, blk_cell h rfl, blk_cell h rfl, blk_cell h rfl⟩
theorem WinAt.up {u u' : World} {S most : Nat} {a : Option Addr} {n c : Nat} {P : List Nat} (h : WinAt u S most a n c P) (hb : Below u.heap.size u u') : WinAt u' S most a n c P := below_blk hb (heap_lt h) h
theorem size_c (P : List Nat) (w : World) : Calls Tryd.prog 89 #[.agg #[.int .i64 (P.length : Int), .int .u16 (lo (ints P)), .int .u16 (hi (ints P))]] w fun e w' => e = .returned (.int .i64 (P.length : Int)) ∧ Below w.heap.size w w' := Wk.size_any _ _ _ w
theorem bytes_c (w : World) (most : Nat) (a : Option Addr) (n c : Nat) (P : List Nat) (hq : P.length ≤ n) (hc : n ≤ c) :
    Calls Tryd.prog 52 #[winV most a n c P] w fun e w' => e = .returned (.slice a P.length c) ∧ Below w.heap.size w w' := by
  have HB0 := hide (below_new w (.cells (winC most a n c P).toArray 120))
  have HC0 := hide (show WinAt (w.alloc (.cells (winC most a n c P).toArray 120)) w.heap.size most a n c P from heap_last w _)
  have HZ := hide (fun u : World => size_c P u)
  have hsl := fun u : World => slice_h u a n c P.length (by omega)
  unfold winV at *
  unfold winC at HB0 HC0 ⊢
  obtain ⟨q, hq0⟩ : ∃ q, q = P.length := ⟨_, rfl⟩
  go_enter Tryd.func52, Tryd.ntmps52
  go_wp2_with fail
  refine wp_region_keep (fun u => WinAt u w.heap.size most a n c P ∧ Below w.heap.size w u) (by kernel_rfl) (by kernel_rfl) ⟨HC0.out.up (Below.refl _ _).drew, HB0.out.drew⟩ ?_
  repeat (first
    | (refine keep_step (v := ?_) (by rfl) (fun u K hS hK => ?_) ?_
       rotate_left
       · obtain ⟨c0, c1, c2, c3, c4⟩ := hS.1.cs
         (go_simp; first
           | (go_at_call 89; (with_reducible refine Calls.mono (HZ.out _) ?_); rintro e u2 ⟨rfl, hu⟩; exact hK _ ⟨hS.1.up hu, keepB hu (Nat.le_refl _) hS.2⟩)
           | (with_reducible exact hK _ hS))
       simp only [Act.put, List.setIfInBounds_toArray, List.set_cons_zero, List.set_cons_succ]))
  refine keep_nil (fun w3 hS3 => ?_)
  have HB3 := hide hS3.2
  clear hS3
  go_wp2
  go_ret
  exact ⟨rfl, HB3.out⟩
end Go.Proofs.YtkinpbhbgeiflaaDoor.Dh
/- delta's window: behind, on. -/
namespace Go.Proofs.YtkinpbhbgeiflaaDoor.Di
set_option linter.unusedVariables false
set_option linter.unusedSimpArgs false
set_option maxRecDepth 100000
open Go.ChangeShapes Go.WideShapes Go.ChangeAt Go.RowKit
open Go.Proofs.YtkinpbhbgeiflaaDoor.Wu Go.Proofs.YtkinpbhbgeiflaaDoor.Sm Go.Proofs.YtkinpbhbgeiflaaDoor.Sh Go.Proofs.YtkinpbhbgeiflaaDoor.Ba Go.Proofs.YtkinpbhbgeiflaaDoor.Bp Go.Proofs.YtkinpbhbgeiflaaDoor.Rk Go.Proofs.YtkinpbhbgeiflaaDoor.Rh Go.Proofs.YtkinpbhbgeiflaaDoor.Rw Go.Proofs.YtkinpbhbgeiflaaDoor.Rx Go.Proofs.YtkinpbhbgeiflaaDoor.Rb1 Go.Proofs.YtkinpbhbgeiflaaDoor.Ka Go.Proofs.YtkinpbhbgeiflaaDoor.Ke Go.Proofs.YtkinpbhbgeiflaaDoor.Dg Go.Proofs.YtkinpbhbgeiflaaDoor.Dh
open Go.Proofs.YtkinpbhbgeiflaaDoor.Wm (lo hi)
attribute [local go_sem] kUpon_value kUpon_skip kUpon_enter
/-- The stages: the window in S, the result in S + 1. -/
def BT (w : World) (most : Nat) (a : Option Addr) (n c : Nat) (P : List Nat) (X : Array Value) : List Value → World → Prop
  | [], u => WinAt u w.heap.size most a n c P ∧ u.heap[w.heap.size + 1]? = some (.cells zeroW.toArray 120 (0, 0)) ∧ Below w.heap.size w u
  | [_], u => u.heap[w.heap.size + 1]? = some (.cells X 120 (0, 0)) ∧ Below w.heap.size w u
  | _, _ => False
theorem BT.up {w : World} {most : Nat} {a : Option Addr} {n c : Nat} {P : List Nat} {X : Array Value} {u u' : World} (h : BT w most a n c P X [] u) (hb : Below u.heap.size u u') : BT w most a n c P X [] u' :=
  ⟨h.1.up hb, below_blk hb (heap_lt h.2.1) h.2.1, keepB hb (Nat.le_refl _) h.2.2⟩
theorem BT.two {w : World} {most : Nat} {a : Option Addr} {n c : Nat} {P : List Nat} {X : Array Value} : BT w most a n c P X [] ((w.alloc (.cells (winC most a n c P).toArray 120)).alloc (.cells zeroW.toArray 120)) :=
  ⟨heap_2a w _ _, heap_2b w _ _, ((Below.refl w.heap.size w).alloc (Nat.le_refl _) _).alloc (by simp) _⟩
set_option maxHeartbeats 800000 in
theorem behind_c (w : World) (most : Nat) (a : Option Addr) (n c : Nat) (R : List Nat) (hs : SrcB w a n R) (hc : n ≤ c) (hn : n < 2147483648) (hm : most ≤ 4096) :
    Calls Tryd.prog 54 #[winV most a n c (R.take most)] w fun e w' => e = .returned (winV most (shf a c (R.take most).length) (n - (R.take most).length) (c - (R.take most).length) ((R.drop most).take most)) ∧ Below w.heap.size w w' := by
  have hl := hs.1
  have hql : (R.take most).length ≤ n := by rw [List.length_take, hl]; omega
  have hdr : R.drop (R.take most).length = R.drop most := by
    rcases Nat.le_total most R.length with h | h
    · rw [List.length_take, Nat.min_eq_left h]
    · rw [List.length_take, Nat.min_eq_right h, List.drop_of_length_le (Nat.le_refl _), List.drop_of_length_le h]
  have hs1 := src_drop (p := (R.take most).length) hs hql hc
  rw [hdr] at hs1
  generalize R.take most = P at *
  generalize R.drop most = R1 at *
  obtain ⟨X, hX⟩ : ∃ X, X = (winC most (shf a c P.length) (n - P.length) (c - P.length) (R1.take most)).toArray := ⟨_, rfl⟩
  have HT := hide (BT.two (w := w) (most := most) (a := a) (n := n) (c := c) (P := P) (X := X))
  have HZ := hide (fun u : World => size_c P u)
  have hsl := fun u : World => slice_l u a n c P.length hql
  have HO := hide (fun (u : World) (hu : Below w.heap.size w u) => open_c u (shf a c P.length) (n - P.length) (c - P.length) most R1 (hs1.below hu) (by omega) (by omega) hm)
  generalize shf a c P.length = a1 at *
  unfold winV at HO ⊢
  rw [← hX] at HO ⊢
  have hX5 : X.size = 5 := by rw [hX]; rfl
  have hX1 : X.all (·.oneCell') = true := by rw [hX]; exact all_oneCell_toArray (win_one _ _ _ _ _)
  clear hs hs1 hdr hl
  unfold winC zeroW at HT
  unfold winC
  go_enter Tryd.func54, Tryd.ntmps54
  go_wp2_with fail
  refine wp_region_h (BT w most a n c P X)
    [some (some (.pointer (some ⟨w.heap.size, 1, none⟩))), some (some (.slice a n c)), some (some (.pointer (some ⟨w.heap.size, 2, none⟩))), some (some (.agg #[.int .i64 (P.length : Int), .int .u16 (lo (ints P)), .int .u16 (hi (ints P))])), some (some (.int .i64 (P.length : Int))), some (some (.slice a1 (n - P.length) (c - P.length))), some (some (.pointer (some ⟨w.heap.size, 0, none⟩))), some (some (.int .i64 (most : Int))), some (some (.agg X)), none]
    [1, 0, 1, 0, 0, 1, 1, 0, 0, 0] (by kernel_rfl) (by kernel_rfl) [9] [9] rfl rfl (by kernel_rfl) (by kernel_rfl) (BT.up HT.out (Below.refl _ _).drew) ?_
  refine gF_step (by rfl) (fun h u K hL hT hK => ?_) ?_
  · go_simp
    exact hK _ hT
  simp only [Act.put, List.setIfInBounds_toArray, List.set_cons_zero, List.set_cons_succ]
  refine gF_step (by rfl) (fun h u K hL hT hK => ?_) ?_
  · obtain rfl : h = [] := List.length_eq_zero_iff.1 (by omega)
    have hT0 : BT w most a n c P X [] u := hT
    obtain ⟨c0, c1, c2, c3, c4⟩ := hT0.1.cs
    go_simp
    exact hK _ hT
  simp only [Act.put, List.setIfInBounds_toArray, List.set_cons_zero, List.set_cons_succ]
  refine gF_step (by rfl) (fun h u K hL hT hK => ?_) ?_
  · go_simp
    exact hK _ hT
  simp only [Act.put, List.setIfInBounds_toArray, List.set_cons_zero, List.set_cons_succ]
  refine gF_step (by rfl) (fun h u K hL hT hK => ?_) ?_
  · obtain rfl : h = [] := List.length_eq_zero_iff.1 (by omega)
    have hT0 : BT w most a n c P X [] u := hT
    obtain ⟨c0, c1, c2, c3, c4⟩ := hT0.1.cs
    go_simp
    exact hK _ hT
  simp only [Act.put, List.setIfInBounds_toArray, List.set_cons_zero, List.set_cons_succ]
  refine gF_step (by rfl) (fun h u K hL hT hK => ?_) ?_
  · obtain rfl : h = [] := List.length_eq_zero_iff.1 (by omega)
    have hT0 : BT w most a n c P X [] u := hT
    have hbw := hT0.2.2
    go_simp
    go_at_call 89
    (with_reducible refine Calls.mono (HZ.out u) ?_)
    rintro e u2 ⟨rfl, hu⟩
    exact hK _ (BT.up hT0 hu)
  simp only [Act.put, List.setIfInBounds_toArray, List.set_cons_zero, List.set_cons_succ]
  refine gF_step (by rfl) (fun h u K hL hT hK => ?_) ?_
  · go_simp
    exact hK _ hT
  simp only [Act.put, List.setIfInBounds_toArray, List.set_cons_zero, List.set_cons_succ]
  refine gF_step (by rfl) (fun h u K hL hT hK => ?_) ?_
  · go_simp
    exact hK _ hT
  simp only [Act.put, List.setIfInBounds_toArray, List.set_cons_zero, List.set_cons_succ]
  refine gF_step (by rfl) (fun h u K hL hT hK => ?_) ?_
  · obtain rfl : h = [] := List.length_eq_zero_iff.1 (by omega)
    have hT0 : BT w most a n c P X [] u := hT
    obtain ⟨c0, c1, c2, c3, c4⟩ := hT0.1.cs
    go_simp
    exact hK _ hT
  simp only [Act.put, List.setIfInBounds_toArray, List.set_cons_zero, List.set_cons_succ]
  refine gF_step (by rfl) (fun h u K hL hT hK => ?_) ?_
  · obtain rfl : h = [] := List.length_eq_zero_iff.1 (by omega)
    have hT0 : BT w most a n c P X [] u := hT
    have hbw := hT0.2.2
    go_simp
    go_at_call 50
    (with_reducible refine Calls.mono (HO.out u hbw) ?_)
    rintro e u2 ⟨rfl, hu⟩
    exact hK _ (BT.up hT0 hu)
  simp only [Act.put, List.setIfInBounds_toArray, List.set_cons_zero, List.set_cons_succ]
  refine gE_step (v := undef) (by rfl) (fun u K hT hK => ?_) ?_
  · have hT0 : BT w most a n c P X [] u := hT
    refine kUpon_store_all 120 _ _ rfl (w.heap.size + 1) X zeroW.toArray 120 rfl rfl (And.left (And.right hT0)) (by rw [hX5]; rfl) (by rw [hX5]; kernel_rfl) hX1 (fun w' h1 h2 => hK w' ⟨h1, belowG (And.right (And.right hT0)) h2 (by omega) (And.right (And.right hT0)).size⟩)
  simp only [Act.put, List.setIfInBounds_toArray, List.set_cons_zero, List.set_cons_succ]
  refine g_nil (fun w3 hT3 => ?_)
  obtain ⟨h31, h32⟩ := hT3
  have HB3 := hide h32
  have H3 := hide h31
  clear h31 h32 HT HO HZ
  go_wp2
  refine bodyPost_ret (v := .agg X) ?_ rfl ⟨rfl, HB3.out⟩
  have hl := load_all (P := Tryd.prog) 120 H3.out _ Tryd.underlying120 rfl (by rw [hX5]; kernel_rfl)
  simp [results, Tryd.results54, asAddr, hl]
end Go.Proofs.YtkinpbhbgeiflaaDoor.Di
/- delta's window: on. -/
namespace Go.Proofs.YtkinpbhbgeiflaaDoor.Dj
set_option linter.unusedVariables false
set_option linter.unusedSimpArgs false
set_option maxRecDepth 100000
open Go.ChangeShapes Go.WideShapes Go.ChangeAt Go.RowKit
open Go.Proofs.YtkinpbhbgeiflaaDoor.Wu Go.Proofs.YtkinpbhbgeiflaaDoor.Sm Go.Proofs.YtkinpbhbgeiflaaDoor.Sh Go.Proofs.YtkinpbhbgeiflaaDoor.Ba Go.Proofs.YtkinpbhbgeiflaaDoor.Bp Go.Proofs.YtkinpbhbgeiflaaDoor.Rk Go.Proofs.YtkinpbhbgeiflaaDoor.Rh Go.Proofs.YtkinpbhbgeiflaaDoor.Rw Go.Proofs.YtkinpbhbgeiflaaDoor.Rx Go.Proofs.YtkinpbhbgeiflaaDoor.Rb1 Go.Proofs.YtkinpbhbgeiflaaDoor.Ka Go.Proofs.YtkinpbhbgeiflaaDoor.Ke Go.Proofs.YtkinpbhbgeiflaaDoor.Dg Go.Proofs.YtkinpbhbgeiflaaDoor.Dh Go.Proofs.YtkinpbhbgeiflaaDoor.Di
open Go.Proofs.YtkinpbhbgeiflaaDoor.Wm (lo hi)
attribute [local go_sem] kUpon_value kUpon_skip kUpon_enter
/-- The window in S, the result in S + 1. -/
def OnS (w : World) (most : Nat) (a : Option Addr) (n c : Nat) (P : List Nat) (u : World) : Prop :=
  WinAt u w.heap.size most a n c P ∧ u.heap[w.heap.size + 1]? = some (.cells zeroW.toArray 120 (0, 0)) ∧ Below w.heap.size w u
theorem OnS.up {w : World} {most : Nat} {a : Option Addr} {n c : Nat} {P : List Nat} {u u' : World} (h : OnS w most a n c P u) (hb : Below u.heap.size u u') : OnS w most a n c P u' :=
  ⟨h.1.up hb, below_blk hb (heap_lt h.2.1) h.2.1, keepB hb (Nat.le_refl _) h.2.2⟩
theorem OnS.two {w : World} {most : Nat} {a : Option Addr} {n c : Nat} {P : List Nat} : OnS w most a n c P ((w.alloc (.cells (winC most a n c P).toArray 120)).alloc (.cells zeroW.toArray 120)) :=
  ⟨heap_2a w _ _, heap_2b w _ _, ((Below.refl w.heap.size w).alloc (Nat.le_refl _) _).alloc (by simp) _⟩
/-- The stages of what rolls. -/
def RT (w : World) (most : Nat) (a : Option Addr) (n c : Nat) (P P' : List Nat) : List Value → World → Prop
  | [], u => OnS w most a n c P u
  | [_], u => OnS w most a n c P' u
  | _, _ => False
theorem set_sum {u : World} {S most : Nat} {a : Option Addr} {n c : Nat} {P P' : List Nat} (h : WinAt u S most a n c P) : WinAt (u.setCells S 2 [.int .i64 (P'.length : Int), .int .u16 (lo (ints P')), .int .u16 (hi (ints P'))]) S most a n c P' := by
  have e := blk_setCells [.int .i64 (P'.length : Int), .int .u16 (lo (ints P')), .int .u16 (hi (ints P'))] 2 u (winC most a n c P) (by simp [winC]) h
  exact e
theorem sum_there {u : World} {S most : Nat} {a : Option Addr} {n c : Nat} {P : List Nat} (h : WinAt u S most a n c P) : u.there S 2 3 := fun j hj => by
  have hl := there_all h (2 + j) (by simp [winC]; omega)
  simpa using hl
theorem OnS.sum {w : World} {most : Nat} {a : Option Addr} {n c : Nat} {P P' : List Nat} {u : World} (h : OnS w most a n c P u) : OnS w most a n c P' (u.setCells w.heap.size 2 [.int .i64 (P'.length : Int), .int .u16 (lo (ints P')), .int .u16 (hi (ints P'))]) :=
  ⟨set_sum h.1, (setCells_other (by omega) _ _ _).trans h.2.1, Ba.below_setCells _ _ _ _ h.2.2 (Nat.le_refl _)⟩
theorem sum_one (n l h : Int) : (#[Value.int .i64 n, .int .u16 l, .int .u16 h] : Array Value).all (·.oneCell') = true :=
  all_oneCell_toArray (by intro v hv; simp only [List.mem_cons, List.not_mem_nil, or_false] at hv; rcases hv with rfl | rfl | rfl <;> rfl)
theorem wpList_store_midH {P : Program} {ops : Array Oper} {rest : List Oper} {op : Oper} {a : Act} {w : World} {Q : Exit → Act → World → Prop} (hgd : op.guard = none) (ty : TypeId) (x y : Operand) (ho : op.op = .store ty x y)
    (b o : Nat) (cells : Array Value) (hx : a.eval x = .pointer (some ⟨b, o, none⟩)) (hy : a.eval y = .agg cells)
    (ht : w.there b o cells.size) (hi : (P.info? ty).map (·.size) = some cells.size) (h1 : cells.all (·.oneCell') = true)
    (h : Hid (wpList P ops Q rest (a.put op.dst undef) (w.setCells b o cells.toList))) : wpList P ops Q (op :: rest) a w := wpList_store_mid hgd ty x y ho b o cells hx hy ht hi h1 h
theorem at_src {w : World} {b off n i x : Nat} {R : List Nat} (h : SrcB w (some ⟨b, off, none⟩) n R) (hi : i < n) (hx : R[i]? = some x) : w.cell? ⟨b, off + i, none⟩ = some (.int .u8 (x : Int)) := by
  obtain ⟨hl, h8, b', off', ha, hc⟩ := h
  have e := ha (by omega)
  injection e with e
  injection e with e1 e2
  subst e1 e2
  rw [hc i hi, List.getD, hx]
  rfl
theorem src_kept {w u : World} {a : Option Addr} {n : Nat} {R : List Nat} (h : SrcB w a n R) (hb : Below w.heap.size w u) : SrcB u a n R := h.below hb
set_option maxHeartbeats 1600000 in
theorem on_roll (w : World) (most b off n c : Nat) (R : List Nat) (hs : SrcB w (some ⟨b, off, none⟩) n R) (hc : n ≤ c) (hn : n < 2147483648) (hn0 : 0 < n) (hm : most ≤ 4096) (L : List Nat) (x y : Nat) (hR : R.take most = x :: L) (hR2 : (R.drop 1).take most = L ++ [y]) (h0 : R[0]? = some x) (hy : R[most]? = some y) (h8 : x < 256 ∧ y < 256) (hlt : most < n) (hm1 : 1 ≤ most) :
    Calls Tryd.prog 55 #[winV most (some ⟨b, off, none⟩) n c (R.take most)] w fun e w' => e = .returned (winV most (shf (some ⟨b, off, none⟩) c 1) (n - 1) (c - 1) ((R.drop 1).take most)) ∧ Below w.heap.size w w' := by
  have hl := hs.1
  have hPl : (x :: L).length = most := by rw [← hR, List.length_take]; omega
  have hPl' : (L ++ [y]).length = most := by rw [← hPl]; simp
  rw [hR, hR2]
  have HX := hide (fun (u : World) (hu : Below w.heap.size w u) => at_src (i := 0) (hs.below hu) hn0 h0)
  have HY := hide (fun (u : World) (hu : Below w.heap.size w u) => at_src (i := most) (hs.below hu) hlt hy)
  have HT := hide (OnS.two (w := w) (most := most) (a := some ⟨b, off, none⟩) (n := n) (c := c) (P := x :: L))
  have HZ := hide (fun u : World => size_c (x :: L) u)
  have HRl := hide (fun u : World => Wk.roll_L (ints L) (most : Int) (x : Int) (y : Int) u (by rw [ints_length, ← hPl]; simp) (by rw [ints_length]; simp at hPl; omega) (by omega) (by omega) (by omega) (by omega))
  have e1 : (x : Int) :: ints L = ints (x :: L) := rfl
  have e2 : ints L ++ [(y : Int)] = ints (L ++ [y]) := by simp [ints]
  rw [e1, e2] at HRl
  have hsl := fun u : World => slice_1 u (some ⟨b, off, none⟩) n c hn0
  have hz5 : ∀ P : List Nat, (winC most (shf (some ⟨b, off, none⟩) c 1) (n - 1) (c - 1) P).length = 5 := fun P => rfl
  obtain ⟨P, hP⟩ : ∃ P, P = x :: L := ⟨_, rfl⟩
  obtain ⟨P', hP'⟩ : ∃ P', P' = (L ++ [y]) := ⟨_, rfl⟩
  rw [← hP] at HT HZ HRl hPl ⊢
  rw [← hP'] at hPl' HRl ⊢
  have HPl := hide hPl
  have HPl' := hide hPl'
  have HZ2 : Hid (∀ u : World, Calls Tryd.prog 89 #[.agg #[.int .i64 (most : Int), .int .u16 (lo (ints P)), .int .u16 (hi (ints P))]] u fun e w' => e = .returned (.int .i64 (most : Int)) ∧ Below u.heap.size u w') := hide (fun u => by rw [← HPl.out]; exact HZ.out u)
  obtain ⟨a1, ha1⟩ : ∃ a1, a1 = shf (some ⟨b, off, none⟩) c 1 := ⟨_, rfl⟩
  rw [← ha1] at hsl hz5 ⊢
  have i0 : (0 : Int) < (n : Int) := by omega
  have i1 : (most : Int) < (n : Int) := by omega
  have d1 : decide ((most : Int) < (n : Int)) = true := by simpa using hlt
  have d2 : decide (most < n) = true := by simpa using hlt
  clear e1 e2 hR hR2 hPl hPl' hP hP' ha1 hs hl h0 hy h8 HZ
  unfold OnS WinAt winC zeroW at HT
  unfold winV winC
  rw [HPl.out] at HT ⊢
  have HT : Hid (OnS w most (some ⟨b, off, none⟩) n c P ((w.alloc (.cells [.int .i64 (most : Int), .slice (some ⟨b, off, none⟩) n c, .int .i64 (most : Int), .int .u16 (lo (ints P)), .int .u16 (hi (ints P))].toArray 120)).alloc (.cells [.int .i64 0, .slice none 0 0, .int .i64 0, .int .u16 0, .int .u16 0].toArray 120))) := by
    unfold OnS WinAt winC zeroW
    rw [HPl.out]
    exact HT
  go_enter Tryd.func55, Tryd.ntmps55
  go_wp2_with fail
  refine wp_region_keep (fun u => OnS w most (some ⟨b, off, none⟩) n c P u) (by kernel_rfl) (by kernel_rfl) (HT.out.up (Below.refl _ _).drew) ?_
  repeat (first
    | (refine keep_step (v := ?_) (by rfl) (fun u K hS hK => ?_) ?_
       rotate_left
       · obtain ⟨c0, c1, c2, c3, c4⟩ := hS.1.cs
         rw [HPl.out] at c2
         have cx := HX.out u hS.2.2
         rw [Nat.add_zero] at cx
         (go_simp; first
           | (go_at_call 89; (with_reducible refine Calls.mono (HZ2.out _) ?_); rintro e u2 ⟨rfl, hu⟩; exact hK _ (hS.up hu))
           | (with_reducible exact hK _ hS))
       simp only [Act.put, List.setIfInBounds_toArray, List.set_cons_zero, List.set_cons_succ]))
  refine keep_nil (fun w3 hS3 => ?_)
  have HT3 := hide hS3
  clear hS3 HT
  obtain ⟨c0, c1, c2, c3, c4⟩ := HT3.out.1.cs
  rw [HPl.out] at c2
  go_wp2_with fail
  clear c0 c1 c2 c3 c4
  refine wp_region_h (RT w most (some ⟨b, off, none⟩) n c P P')
    [some (some (.pointer (some ⟨w.heap.size, 2, none⟩))), some (some (.agg #[.int .i64 (most : Int), .int .u16 (lo (ints P)), .int .u16 (hi (ints P))])), some (some (.int .u8 (x : Int))), some (some (.pointer (some ⟨w.heap.size, 1, none⟩))), some (some (.slice (some ⟨b, off, none⟩) n c)), some (some (.int .i64 (most : Int))), some (some (.pointer (some ⟨b, off + most, none⟩))), some (some (.int .u8 (y : Int))), some (some (.agg #[.int .i64 (most : Int), .int .u16 (lo (ints P')), .int .u16 (hi (ints P'))])), some (some (.pointer (some ⟨w.heap.size, 2, none⟩))), none]
    [1, 0, 1, 1, 0, 1, 1, 0, 0, 1, 0] (by kernel_rfl) (by kernel_rfl) [10] [10] rfl rfl (by kernel_rfl) (by kernel_rfl) (HT3.out.up (Below.refl _ _).drew) ?_
  refine gF_step (by rfl) (fun h u K hL hT hK => ?_) ?_
  · go_simp
    exact hK _ hT
  simp only [Act.put, List.setIfInBounds_toArray, List.set_cons_zero, List.set_cons_succ]
  refine gF_step (by rfl) (fun h u K hL hT hK => ?_) ?_
  · obtain rfl : h = [] := List.length_eq_zero_iff.1 (by omega)
    have hT0 : OnS w most (some ⟨b, off, none⟩) n c P u := hT
    obtain ⟨c0, c1, c2, c3, c4⟩ := hT0.1.cs
    rw [HPl.out] at c2
    have cy := HY.out u hT0.2.2
    go_simp
    exact hK _ hT
  simp only [Act.put, List.setIfInBounds_toArray, List.set_cons_zero, List.set_cons_succ]
  refine gF_step (by rfl) (fun h u K hL hT hK => ?_) ?_
  · go_simp
    exact hK _ hT
  simp only [Act.put, List.setIfInBounds_toArray, List.set_cons_zero, List.set_cons_succ]
  refine gF_step (by rfl) (fun h u K hL hT hK => ?_) ?_
  · go_simp
    exact hK _ hT
  simp only [Act.put, List.setIfInBounds_toArray, List.set_cons_zero, List.set_cons_succ]
  refine gF_step (by rfl) (fun h u K hL hT hK => ?_) ?_
  · obtain rfl : h = [] := List.length_eq_zero_iff.1 (by omega)
    have hT0 : OnS w most (some ⟨b, off, none⟩) n c P u := hT
    obtain ⟨c0, c1, c2, c3, c4⟩ := hT0.1.cs
    rw [HPl.out] at c2
    have cy := HY.out u hT0.2.2
    go_simp
    exact hK _ hT
  simp only [Act.put, List.setIfInBounds_toArray, List.set_cons_zero, List.set_cons_succ]
  refine gF_step (by rfl) (fun h u K hL hT hK => ?_) ?_
  · go_simp
    exact hK _ hT
  simp only [Act.put, List.setIfInBounds_toArray, List.set_cons_zero, List.set_cons_succ]
  refine gF_step (by rfl) (fun h u K hL hT hK => ?_) ?_
  · go_simp
    exact hK _ hT
  simp only [Act.put, List.setIfInBounds_toArray, List.set_cons_zero, List.set_cons_succ]
  refine gF_step (by rfl) (fun h u K hL hT hK => ?_) ?_
  · obtain rfl : h = [] := List.length_eq_zero_iff.1 (by omega)
    have hT0 : OnS w most (some ⟨b, off, none⟩) n c P u := hT
    obtain ⟨c0, c1, c2, c3, c4⟩ := hT0.1.cs
    rw [HPl.out] at c2
    have cy := HY.out u hT0.2.2
    go_simp
    exact hK _ hT
  simp only [Act.put, List.setIfInBounds_toArray, List.set_cons_zero, List.set_cons_succ]
  refine gF_step (by rfl) (fun h u K hL hT hK => ?_) ?_
  · obtain rfl : h = [] := List.length_eq_zero_iff.1 (by omega)
    have hT0 : OnS w most (some ⟨b, off, none⟩) n c P u := hT
    go_simp
    go_at_call 90
    (with_reducible refine Calls.mono (HRl.out u) ?_)
    rintro e u2 ⟨rfl, hu⟩
    exact hK _ (OnS.up hT0 hu)
  simp only [Act.put, List.setIfInBounds_toArray, List.set_cons_zero, List.set_cons_succ]
  refine gF_step (by rfl) (fun h u K hL hT hK => ?_) ?_
  · go_simp
    exact hK _ hT
  simp only [Act.put, List.setIfInBounds_toArray, List.set_cons_zero, List.set_cons_succ]
  refine gE_step (v := undef) (by rfl) (fun u K hT hK => ?_) ?_
  · have hT0 : OnS w most (some ⟨b, off, none⟩) n c P u := hT
    refine kUpon_store_mid 111 _ _ rfl w.heap.size 2 #[.int .i64 (most : Int), .int .u16 (lo (ints P')), .int .u16 (hi (ints P'))] rfl rfl (sum_there hT0.1) (by kernel_rfl) (sum_one _ _ _) (hK _ ?_)
    have hf := OnS.sum (P' := P') hT0
    rw [HPl'.out] at hf
    exact hf
  simp only [Act.put, List.setIfInBounds_toArray, List.set_cons_zero, List.set_cons_succ]
  refine g_nil (fun w4 hT4 => ?_)
  have HT4 : Hid (OnS w most (some ⟨b, off, none⟩) n c P' w4) := hide hT4
  clear hT4 HT3 HRl HZ2
  obtain ⟨c0, c1, c2, c3, c4⟩ := HT4.out.1.cs
  have cf := blk_free (i := 1) HT4.out.1
  have HT5 : Hid (OnS w most a1 (n - 1) (c - 1) P' (w4.setCell ⟨w.heap.size, 1, none⟩ (.slice a1 (n - 1) (c - 1)))) := hide ⟨blk_set HT4.out.1 _, (RowKit.Below.heap_setCell w4 _ _ _ (by simp)).trans HT4.out.2.1, HT4.out.2.2.setCell (Nat.le_refl _) _⟩
  clear HT4
  go_wp2_with (first
    | (refine wpList_load_all rfl 120 _ rfl w.heap.size (winC most a1 (n - 1) (c - 1) P').toArray 120 (0, 0) rfl HT5.out.1 _ Tryd.underlying120 rfl (by rw [List.size_toArray, hz5]; kernel_rfl) ?_)
    | (refine wpList_store_all rfl 120 _ _ rfl (w.heap.size + 1) (winC most a1 (n - 1) (c - 1) P').toArray _ 120 rfl rfl HT5.out.2.1 (by rw [List.size_toArray, hz5]; rfl) (by rw [List.size_toArray, hz5]; kernel_rfl) (all_oneCell_toArray (win_one _ _ _ _ _)) ?_))
  intro w6 H6 HG6
  refine of_hid ?_
  have HB6 := hide (belowG HT5.out.2.2 HG6.out (by omega) HT5.out.2.2.size)
  clear HT5 HG6 c0 c1 c2 c3 c4 cf
  go_wp2
  refine bodyPost_ret (v := winV most a1 (n - 1) (c - 1) P') ?_ rfl ⟨rfl, HB6.out⟩
  have hl := load_win H6.out
  simp [results, Tryd.results55, asAddr, hl]
set_option maxHeartbeats 1600000 in
theorem on_out (w : World) (most b off n c : Nat) (R : List Nat) (hs : SrcB w (some ⟨b, off, none⟩) n R) (hc : n ≤ c) (hn : n < 2147483648) (hn0 : 0 < n) (hm : most ≤ 4096) (L : List Nat) (x : Nat) (hR : R.take most = x :: L) (hR2 : (R.drop 1).take most = L) (h0 : R[0]? = some x) (h8 : x < 256) (hge : (R.take most).length = n) :
    Calls Tryd.prog 55 #[winV most (some ⟨b, off, none⟩) n c (R.take most)] w fun e w' => e = .returned (winV most (shf (some ⟨b, off, none⟩) c 1) (n - 1) (c - 1) ((R.drop 1).take most)) ∧ Below w.heap.size w w' := by
  have hl := hs.1
  have hPl : (x :: L).length = n := by rw [← hR]; exact hge
  have hPl' : L.length = n - 1 := by simp at hPl; omega
  have HLl := hide hPl'
  rw [hR, hR2]
  have HX := hide (fun (u : World) (hu : Below w.heap.size w u) => at_src (i := 0) (hs.below hu) hn0 h0)
  have HT := hide (OnS.two (w := w) (most := most) (a := some ⟨b, off, none⟩) (n := n) (c := c) (P := x :: L))
  have HZ := hide (fun u : World => size_c (x :: L) u)
  have HRl := hide (fun u : World => Wk.out_L (ints L) (n : Int) (x : Int) u (by rw [ints_length, ← hPl]; simp) (by rw [ints_length, hPl']; omega) (by omega) (by omega))
  have e1 : (x : Int) :: ints L = ints (x :: L) := rfl
  have e3 : (n : Int) - 1 = (L.length : Int) := by rw [hPl']; omega
  rw [e1, e3] at HRl
  have hsl := fun u : World => slice_1 u (some ⟨b, off, none⟩) n c hn0
  have hz5 : ∀ P : List Nat, (winC most (shf (some ⟨b, off, none⟩) c 1) (n - 1) (c - 1) P).length = 5 := fun P => rfl
  obtain ⟨P, hP⟩ : ∃ P, P = x :: L := ⟨_, rfl⟩
  obtain ⟨P', hP'⟩ : ∃ P', P' = L := ⟨_, rfl⟩
  rw [← hP] at HT HZ HRl hPl ⊢
  rw [← hP'] at hPl' HRl ⊢
  have HPl := hide hPl
  have HPl' := hide hPl'
  have HZ2 : Hid (∀ u : World, Calls Tryd.prog 89 #[.agg #[.int .i64 (n : Int), .int .u16 (lo (ints P)), .int .u16 (hi (ints P))]] u fun e w' => e = .returned (.int .i64 (n : Int)) ∧ Below u.heap.size u w') := hide (fun u => by rw [← HPl.out]; exact HZ.out u)
  obtain ⟨a1, ha1⟩ : ∃ a1, a1 = shf (some ⟨b, off, none⟩) c 1 := ⟨_, rfl⟩
  rw [← ha1] at hsl hz5 ⊢
  have i0 : (0 : Int) < (n : Int) := by omega
  have d1 : decide ((n : Int) < (n : Int)) = false := by simp
  have d2 : decide (n < n) = false := by simp
  clear e1 e3 hR hR2 hPl hPl' hP hP' ha1 hs hl h0 h8 HZ hge
  unfold OnS WinAt winC zeroW at HT
  unfold winV winC
  rw [HPl.out] at HT ⊢
  have HT : Hid (OnS w most (some ⟨b, off, none⟩) n c P ((w.alloc (.cells [.int .i64 (most : Int), .slice (some ⟨b, off, none⟩) n c, .int .i64 (n : Int), .int .u16 (lo (ints P)), .int .u16 (hi (ints P))].toArray 120)).alloc (.cells [.int .i64 0, .slice none 0 0, .int .i64 0, .int .u16 0, .int .u16 0].toArray 120))) := by
    unfold OnS WinAt winC zeroW
    rw [HPl.out]
    exact HT
  go_enter Tryd.func55, Tryd.ntmps55
  go_wp2_with fail
  refine wp_region_keep (fun u => OnS w most (some ⟨b, off, none⟩) n c P u) (by kernel_rfl) (by kernel_rfl) (HT.out.up (Below.refl _ _).drew) ?_
  repeat (first
    | (refine keep_step (v := ?_) (by rfl) (fun u K hS hK => ?_) ?_
       rotate_left
       · obtain ⟨c0, c1, c2, c3, c4⟩ := hS.1.cs
         rw [HPl.out] at c2
         have cx := HX.out u hS.2.2
         rw [Nat.add_zero] at cx
         (go_simp; first
           | (go_at_call 89; (with_reducible refine Calls.mono (HZ2.out _) ?_); rintro e u2 ⟨rfl, hu⟩; exact hK _ (hS.up hu))
           | (with_reducible exact hK _ hS))
       simp only [Act.put, List.setIfInBounds_toArray, List.set_cons_zero, List.set_cons_succ]))
  refine keep_nil (fun w3 hS3 => ?_)
  have HT3 := hide hS3
  clear hS3 HT
  obtain ⟨c0, c1, c2, c3, c4⟩ := HT3.out.1.cs
  rw [HPl.out] at c2
  go_wp2_with fail
  refine (HRl.out _).mono ?_
  rintro e w4 ⟨rfl, hb4⟩
  have HT4 := hide (HT3.out.up hb4)
  clear hb4 HT3 HRl HZ2 c0 c1 c2 c3 c4
  go_wp2_with (refine wpList_store_midH rfl 111 _ _ rfl w.heap.size 2 #[.int .i64 (P'.length : Int), .int .u16 (lo (ints P')), .int .u16 (hi (ints P'))] rfl rfl (sum_there HT4.out.1) (by kernel_rfl) (sum_one _ _ _) ?_)
  refine of_hid ?_
  have HT4 : Hid (OnS w most (some ⟨b, off, none⟩) n c P' (w4.setCells w.heap.size 2 [.int .i64 (P'.length : Int), .int .u16 (lo (ints P')), .int .u16 (hi (ints P'))])) := hide (OnS.sum (P' := P') HT4.out)
  show wpList _ _ _ _ _ (w4.setCells w.heap.size 2 [.int .i64 (P'.length : Int), .int .u16 (lo (ints P')), .int .u16 (hi (ints P'))])
  generalize (w4.setCells w.heap.size 2 [.int .i64 (P'.length : Int), .int .u16 (lo (ints P')), .int .u16 (hi (ints P'))]) = w4 at *
  obtain ⟨c0, c1, c2, c3, c4⟩ := HT4.out.1.cs
  have cf := blk_free (i := 1) HT4.out.1
  have HT5 : Hid (OnS w most a1 (n - 1) (c - 1) P' (w4.setCell ⟨w.heap.size, 1, none⟩ (.slice a1 (n - 1) (c - 1)))) := hide ⟨blk_set HT4.out.1 _, (RowKit.Below.heap_setCell w4 _ _ _ (by simp)).trans HT4.out.2.1, HT4.out.2.2.setCell (Nat.le_refl _) _⟩
  clear HT4
  go_wp2_with (first
    | (refine wpList_load_all rfl 120 _ rfl w.heap.size (winC most a1 (n - 1) (c - 1) P').toArray 120 (0, 0) rfl HT5.out.1 _ Tryd.underlying120 rfl (by rw [List.size_toArray, hz5]; kernel_rfl) ?_)
    | (refine wpList_store_all rfl 120 _ _ rfl (w.heap.size + 1) (winC most a1 (n - 1) (c - 1) P').toArray _ 120 rfl rfl HT5.out.2.1 (by rw [List.size_toArray, hz5]; rfl) (by rw [List.size_toArray, hz5]; kernel_rfl) (all_oneCell_toArray (win_one _ _ _ _ _)) ?_))
  intro w6 H6 HG6
  refine of_hid ?_
  have HB6 := hide (belowG HT5.out.2.2 HG6.out (by omega) HT5.out.2.2.size)
  clear HT5 HG6 c0 c1 c2 c3 c4 cf
  go_wp2
  refine bodyPost_ret (v := winV most a1 (n - 1) (c - 1) P') ?_ rfl ⟨rfl, HB6.out⟩
  have hl := load_win H6.out
  simp [results, Tryd.results55, asAddr, hl]
end Go.Proofs.YtkinpbhbgeiflaaDoor.Dj
/- delta.Make: where its loop stands; on, whatever comes. -/
namespace Go.Proofs.YtkinpbhbgeiflaaDoor.Dk
set_option linter.unusedVariables false
set_option linter.unusedSimpArgs false
set_option maxRecDepth 100000
open Go.ChangeShapes Go.WideShapes Go.ChangeAt Go.RowKit
open Go.Proofs.YtkinpbhbgeiflaaDoor.Wu Go.Proofs.YtkinpbhbgeiflaaDoor.Sm Go.Proofs.YtkinpbhbgeiflaaDoor.Sh Go.Proofs.YtkinpbhbgeiflaaDoor.Ba Go.Proofs.YtkinpbhbgeiflaaDoor.Bp Go.Proofs.YtkinpbhbgeiflaaDoor.Bq Go.Proofs.YtkinpbhbgeiflaaDoor.Ka Go.Proofs.YtkinpbhbgeiflaaDoor.Ke Go.Proofs.YtkinpbhbgeiflaaDoor.Kk Go.Proofs.YtkinpbhbgeiflaaDoor.Kl Go.Proofs.YtkinpbhbgeiflaaDoor.Ko Go.Proofs.YtkinpbhbgeiflaaDoor.Ku Go.Proofs.YtkinpbhbgeiflaaDoor.Da Go.Proofs.YtkinpbhbgeiflaaDoor.Db Go.Proofs.YtkinpbhbgeiflaaDoor.Dc Go.Proofs.YtkinpbhbgeiflaaDoor.Dd Go.Proofs.YtkinpbhbgeiflaaDoor.Dg Go.Proofs.YtkinpbhbgeiflaaDoor.Dh Go.Proofs.YtkinpbhbgeiflaaDoor.Dj
open Go.Proofs.YtkinpbhbgeiflaaDoor.Su (cutL)
theorem on_c (w : World) (most n c : Nat) (a : Option Addr) (R : List Nat) (hs : SrcB w a n R) (hc : n ≤ c) (hn : n < 2147483648) (hn0 : 0 < n) (hm : most ≤ 4096) (hm1 : 1 ≤ most) :
    Calls Tryd.prog 55 #[winV most a n c (R.take most)] w fun e w' => e = .returned (winV most (shf a c 1) (n - 1) (c - 1) ((R.drop 1).take most)) ∧ Below w.heap.size w w' := by
  obtain ⟨hl, h8, b, off, ha, hcell⟩ := id hs
  obtain rfl := ha hn0
  cases R with
  | nil => simp at hl; omega
  | cons x L =>
    have hx8 := h8 x (by simp)
    obtain ⟨q, rfl⟩ : ∃ q, most = q + 1 := ⟨most - 1, by omega⟩
    by_cases hlt : q + 1 < n
    · have hq : q < L.length := by simp at hl; omega
      have hy8 := h8 L[q] (by simp)
      refine on_roll w (q + 1) b off n c (x :: L) hs hc hn hn0 hm (L.take q) x L[q] (by simp) ?_ (by simp) ?_ ⟨hx8, hy8⟩ hlt (by omega)
      · rw [List.drop_succ_cons, List.drop_zero, List.take_add_one, List.getElem?_eq_getElem hq]
        rfl
      · rw [List.getElem?_cons_succ, List.getElem?_eq_getElem hq]
    · have hL : L.length ≤ q := by simp at hl; omega
      refine on_out w (q + 1) b off n c (x :: L) hs hc hn hn0 hm L x ?_ ?_ (by simp) hx8 ?_
      · rw [List.take_of_length_le (by simp; omega)]
      · rw [List.drop_succ_cons, List.drop_zero, List.take_of_length_le (by omega)]
      · rw [List.take_of_length_le (by simp; omega)]; exact hl
/-- The list under way, the window's block, and what was there ahead. -/
structure LB (w6 : World) (v : Value) (B : Nat) (ps : List TV) (u : World) : Prop where
  own : OwnT u w6.heap.size v ps
  nil : ps = [] → v = .slice none 0 0
  below : Below w6.heap.size w6 u
  hB : w6.heap.size ≤ B
  lt : B < u.heap.size
  nov : v.ownBlock ≠ some B
  nop : ∀ p ∈ ps, p.2.ownBlock ≠ some B
theorem LB.up {w6 : World} {v : Value} {B : Nat} {ps : List TV} {u u' : World} (h : LB w6 v B ps u) (hb : Below u.heap.size u u') : LB w6 v B ps u' :=
  ⟨h.own.below hb, h.nil, keepB hb (Nat.le_refl _) h.below, h.hB, Nat.lt_of_lt_of_le h.lt hb.size, h.nov, h.nop⟩
theorem LB.join {w6 : World} {v : Value} {B : Nat} {ps : List TV} {u u' : World} {x : Tok} {e : Ending} (h : LB w6 v B ps u) (hj : JoinP u w6.heap.size v ps x e u') :
    ∃ v' ps', e = .returned v' ∧ ps'.map (·.1) = joinT (ps.map (·.1)) x ∧ LB w6 v' B ps' u' ∧ u'.heap[B]? = u.heap[B]? := by
  obtain ⟨v', ps', he, hm, ho, hk, hv, hp⟩ := hj
  have hb : u'.heap[B]? = u.heap[B]? := hk.block B h.lt (fun e => h.nov e.symm) (fun p hp e => h.nop p hp e.symm)
  refine ⟨v', ps', he, hm, ⟨ho, fun e => ?_, h.below.trans (hk.below h.own h.below.size), h.hB, Nat.lt_of_lt_of_le h.lt hk.size, fun e => ?_, fun p hpm e => ?_⟩, hb⟩
  · subst e
    have := congrArg List.length hm
    rcases List.eq_nil_or_concat (ps.map (·.1)) with h0 | ⟨us, l, h0⟩
    · rw [h0] at this; simp [joinT] at this
    · rw [h0, List.concat_eq_append, joinT_snoc] at this
      split at this <;> simp at this
  · rcases hv B e with h1 | h1
    · exact h.nov h1
    · have := h.lt; omega
  · rcases hp p hpm B e with ⟨q, hq, h1⟩ | h1
    · exact h.nop q hq h1
    · have := h.lt; omega
theorem LB.store {w6 : World} {v : Value} {B : Nat} {ps : List TV} {u u' : World} (h : LB w6 v B ps u) (hg : u.grownBy u' (some B)) : LB w6 v B ps u' :=
  ⟨h.own.same hg.size (fun g hgo => hg.block g (h.own.own g hgo).2 (fun e => h.nov (by rw [hgo, e]))) (fun p hp g hgo => hg.block g (h.own.owns hp g hgo).2 (fun e => h.nop p hp (by rw [hgo, e]))), h.nil,
    belowG h.below hg h.hB h.below.size, h.hB, Nat.lt_of_lt_of_le h.lt hg.size, h.nov, h.nop⟩
theorem LB.next {w6 : World} {v : Value} {B : Nat} {ps : List TV} {u u' : World} (h : LB w6 v B ps u) (hg : u.grownBy u' (some u.heap.size)) (hlt : u.heap.size < u'.heap.size) : LB w6 v u.heap.size ps u' := by
  refine ⟨h.own.same hg.size (fun g hgo => hg.block g (h.own.own g hgo).2 (fun e => ?_)) (fun p hp g hgo => hg.block g (h.own.owns hp g hgo).2 (fun e => ?_)), h.nil, belowG h.below hg h.below.size h.below.size, h.below.size, hlt, fun e => ?_, fun p hp e => ?_⟩
  · injection e with e; have := (h.own.own g hgo).2; omega
  · injection e with e; have := (h.own.owns hp g hgo).2; omega
  · have := (h.own.own _ e).2; omega
  · have := (h.own.owns hp _ e).2; omega
/-- Which block is found for a window. -/
def fdOf (s k l : Nat) (bs : List Blk) (P : List Nat) : Option Nat := ((plcs s l bs bs.length).find? (isIt P.length ⟨wkN P, cutL k (sha P)⟩)).map (·.i)
def findV : Option Nat → Value
  | none => .tuple #[.int .i64 0, .bool false]
  | some i => .tuple #[.int .i64 (i : Int), .bool true]
theorem find_det {w w' : World} {s k l : Nat} {bs : List Blk} {P : List Nat} {e : Ending} (h : FindP w (grp s l bs bs.length (wkN P)) P.length ⟨wkN P, cutL k (sha P)⟩ e w') : e = .returned (findV (fdOf s k l bs P)) ∧ Below w.heap.size w w' := by
  obtain ⟨i, ok, rfl, hf, hb⟩ := h
  refine ⟨?_, hb⟩
  unfold fdOf findV
  cases hp : (plcs s l bs bs.length).find? (isIt P.length ⟨wkN P, cutL k (sha P)⟩) with
  | none =>
    obtain ⟨rfl, rfl⟩ := fnd_none hf (by rw [find_grp]; exact hp)
    rfl
  | some p =>
    obtain ⟨rfl, rfl⟩ := fnd_det hf (by rw [find_grp]; exact hp)
    rfl
theorem fdOf_lt {s k l : Nat} {bs : List Blk} {P : List Nat} {i : Nat} (h : fdOf s k l bs P = some i) : i < bs.length := by
  unfold fdOf at h
  cases hp : (plcs s l bs bs.length).find? (isIt P.length ⟨wkN P, cutL k (sha P)⟩) with
  | none => rw [hp] at h; cases h
  | some p =>
    rw [hp] at h
    injection h with h
    have hm := List.mem_of_find?_eq_some hp
    unfold plcs at hm
    obtain ⟨j, hj, rfl⟩ := List.mem_map.1 hm
    have := List.mem_range.1 hj
    simp only at h
    omega
end Go.Proofs.YtkinpbhbgeiflaaDoor.Dk
