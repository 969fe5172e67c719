/- path.Set's insert. -/
import Derived.Test.YtlhjkacdhfchiaaDoorPu
import Derived.Laws.OwnMore
namespace Go.Proofs.YtlhjkacdhfchiaaDoor.Pv
set_option linter.unusedVariables false
set_option linter.unusedSimpArgs false
set_option maxRecDepth 100000
open Go.ChangeShapes Go.WideShapes Go.RowKit
open Go.Proofs.YtlhjkacdhfchiaaDoor.Wu Go.Proofs.YtlhjkacdhfchiaaDoor.Pm Go.Proofs.YtlhjkacdhfchiaaDoor.Pd Go.Proofs.YtlhjkacdhfchiaaDoor.Pg Go.Proofs.YtlhjkacdhfchiaaDoor.Ps Go.Proofs.YtlhjkacdhfchiaaDoor.Pt Go.Proofs.YtlhjkacdhfchiaaDoor.Pu Go.Proofs.YtlhjkacdhfchiaaDoor.Rg
attribute [local go_sem] Rk.kUpon_value Rk.kUpon_skip Rk.kUpon_enter
theorem kUpon_append {P : Program} {a : Act} {o : Oper} {u u' : World} {K : Value → World → Prop} {v' : Value} (s x : Operand) (ho : o.op = .call { callee := .builtin .append, args := #[s, x], argTypes := #[52, 52] })
    (hrun : (Builtin.append_ #[52, 52] o.type #[a.eval s, a.eval x]).run P u = .ok v' u') (h : K v' u') : Rk.kUpon P K ((execOp a.eval o).run P u) := by
  have e : (execOp a.eval o).run P u = .ok (.value v') u' := by
    simp [execOp, ho, resolve, invoke, builtin, hrun, Result.andThen]
  rw [e]
  exact h
theorem OwnS.own {w : World} {N g : Nat} {v : Value} {S : List (List UInt8)} (h : OwnS w N v S) (e : v.ownBlock = some g) : N ≤ g := by
  obtain ⟨h1, h2⟩ := h
  rcases h2 with ⟨rfl, hn⟩ | ⟨g', cap, cur, rfl, hb, r⟩
  · cases e
  · have e' : some g' = some g := e
    injection e' with e'; omega
theorem below_grown {w w' : World} {N : Nat} {v : Value} (h : w.grownBy w' v.ownBlock) (hv : ∀ g, v.ownBlock = some g → N ≤ g) (hN : N ≤ w.heap.size) : Below N w w' :=
  ⟨h.os, h.tape, h.output, h.size, fun k hk => h.block k (by omega) (fun e => absurd (hv k e.symm) (by omega))⟩
/-- append of the rest, which may be empty. -/
theorem append_rest (w : World) (ty : TypeId) (v : Value) (N : Nat) (S R : List (List UInt8)) (a : Option Addr) (c : Nat) (h : OwnS w N v S) (hs : SrcS w a R) (hN : N ≤ w.heap.size) (hbig : S.length + R.length ≤ 1000000) :
    ∃ v' w', (Builtin.append_ #[52, 52] ty #[v, .slice a R.length c]).run Tryd.prog w = .ok v' w' ∧ OwnS w' N v' (S ++ R) ∧ Below N w w' := by
  by_cases hR : 0 < R.length
  · obtain ⟨v', w', h1, h2, h3, h4⟩ := append_texts w ty v N S R a c h hs hN hbig hR
    exact ⟨v', w', h1, h2, below_grown h3 (fun g e => OwnS.own h e) hN⟩
  · obtain rfl : R = [] := List.length_eq_zero_iff.1 (by omega)
    obtain ⟨i0, hi0, hz0, hz1, hz2⟩ := info_parts hi9
    refine ⟨v, w, ?_, by simpa using h, Below.refl _ _⟩
    have ht := Tryd.underlying52
    rcases h.2 with ⟨rfl, _⟩ | ⟨g, cap, cur, rfl, _, _, hnc, _⟩
    · cases a <;> simp [Builtin.append_, run_underlying ht, sizeOf, typeInfo, hi0, Builtin.lenOf, Builtin.firstCells, loadCells, loadCellsFrom]
    · cases a <;> simp [Builtin.append_, run_underlying ht, sizeOf, typeInfo, hi0, Builtin.lenOf, Builtin.firstCells, hnc, storeCells, loadCells, loadCellsFrom]
/-- The memory in insert's last region: the path alone, the front with it, all. -/
structure T (w : World) (p : List UInt8) (F G : List (List UInt8)) (h : List Value) (u : World) : Prop where
  below : Below w.heap.size w u
  one : h.length = 1 → ∀ v, h[0]? = some v → ∃ B, v = .slice (some ⟨B, 0, none⟩) 1 1 ∧ u.heap[B]? = some (.cells #[tv p] 9 (0, 0))
  two : h.length = 2 → ∀ v, h[1]? = some v → OwnS u w.heap.size v F
  three : h.length = 3 → ∀ v, h[2]? = some v → OwnS u w.heap.size v G
set_option maxHeartbeats 1600000 in
theorem insert_nil (p : List UInt8) (w : World) :
    Calls Tryd.prog 78 #[.slice none 0 0, .string (bs p)] w fun e w' => ∃ v, e = .returned v ∧ OwnS w' w.heap.size v [p] ∧ Below w.heap.size w w' := by
  have HS := hide (search_c none 0 [] p w ⟨0, 0, fun h => absurd h (by simp), fun i p hp => by simp at hp⟩ (by simp))
  have hpl : place [] p = 0 := by rfl
  rw [hpl] at HS
  clear hpl
  go_enter Tryd.func78, Tryd.ntmps78
  go_wp2_with fail
  refine HS.out.mono ?_
  rintro e w' ⟨f, rfl, q, rfl⟩
  clear HS
  go_wp2_with fail
  refine wp_region_g (T w p [p] [p]) [some (some (.slice none 0 0)), some (some (.string (bs p))), none, none, some (some (.slice none 0 0)), some (some (.int .i64 0)), some (some (.slice none 0 0)), none, some none] (by kernel_rfl) (by kernel_rfl) [2, 3, 7] [2, 3, 7, 8] (by rfl) (by rfl) (by kernel_rfl) ⟨⟨rfl, rfl, rfl, Nat.le_refl _, fun _ _ => rfl⟩, fun h => by simp at h, fun h => by simp at h, fun h => by simp at h⟩ ?_
  refine gF_step (by rfl) (fun h u K hT hK => ?_) ?_
  · go_simp
    exact hK _ hT
  simp only [Act.put, List.setIfInBounds_toArray, List.set_cons_zero, List.set_cons_succ]
  refine gF_step (by rfl) (fun h u K hT hK => ?_) ?_
  · go_simp
    exact hK _ hT
  simp only [Act.put, List.setIfInBounds_toArray, List.set_cons_zero, List.set_cons_succ]
  refine gD_step (fun v => ∃ B, v = .slice (some ⟨B, 0, none⟩) 1 1) ⟨_, 0, rfl⟩ (by rfl) (fun u K hT hK => ?_) (fun v1 hv1 => ?_)
  · go_simp
    have hb := below_new u (.cells #[tv p] 9)
    exact hK _ _ ⟨_, rfl⟩ ⟨keepB hb (Nat.le_refl _) hT.below, fun _ v hv => by simp at hv; subst hv; exact ⟨_, rfl, heap_last _ _⟩, fun h => by simp at h, fun h => by simp at h⟩
  obtain ⟨B1, rfl⟩ := hv1
  simp only [Act.put, List.setIfInBounds_toArray, List.set_cons_zero, List.set_cons_succ]
  refine gD_step (fun v => ∃ a n c, v = .slice a n c) ⟨_, none, 0, 0, rfl⟩ (by rfl) (fun u K hT hK => ?_) (fun v2 hv2 => ?_)
  · obtain ⟨B, e, hB⟩ := hT.one rfl _ rfl
    simp only [Value.slice.injEq, Option.some.injEq, Addr.mk.injEq, and_true] at e
    subst e
    obtain ⟨v', w', hrun, h1, h2⟩ := append_rest u 52 (.slice none 0 0) w.heap.size [] [p] (some ⟨B1, 0, none⟩) 1 ⟨rfl, .inl ⟨rfl, rfl⟩⟩ ⟨B1, 0, fun _ => rfl, fun i q hq => by
        match i, hq with
        | 0, hq =>
          simp only [List.getElem?_cons_zero, Option.some.injEq] at hq
          subst hq
          exact blk_cell hB rfl⟩ hT.below.size (by simp)
    refine kUpon_append (.tmp 18) (.tmp 20) rfl hrun (hK _ _ ?_ ⟨hT.below.trans h2, fun h => by simp at h, fun _ v hv => ?_, fun h => by simp at h⟩)
    · obtain ⟨a, cap, e, _⟩ := h1.form
      exact ⟨_, _, _, e⟩
    · simp at hv
      subst hv
      exact h1
  obtain ⟨a2, n2, c2, rfl⟩ := hv2
  simp only [Act.put, List.setIfInBounds_toArray, List.set_cons_zero, List.set_cons_succ]
  refine gF_step (by rfl) (fun h u K hT hK => ?_) ?_
  · go_simp
    exact hK _ hT
  simp only [Act.put, List.setIfInBounds_toArray, List.set_cons_zero, List.set_cons_succ]
  refine gF_step (by rfl) (fun h u K hT hK => ?_) ?_
  · go_simp
    exact hK _ hT
  simp only [Act.put, List.setIfInBounds_toArray, List.set_cons_zero, List.set_cons_succ]
  refine gF_step (by rfl) (fun h u K hT hK => ?_) ?_
  · go_simp
    exact hK _ hT
  simp only [Act.put, List.setIfInBounds_toArray, List.set_cons_zero, List.set_cons_succ]
  refine gD_step (fun v => True) ⟨undef, trivial⟩ (by rfl) (fun u K hT hK => ?_) (fun v3 hv3 => ?_)
  · have h0 := hT.two rfl _ rfl
    obtain ⟨v', w', hrun, h1, h2⟩ := append_rest u 52 _ w.heap.size [p] [] none 0 h0 ⟨0, 0, fun h => absurd h (by simp), fun i p hp => by simp at hp⟩ hT.below.size (by simp)
    refine kUpon_append (.tmp 21) (.tmp 24) rfl hrun (hK _ _ trivial ⟨hT.below.trans h2, fun h => by simp at h, fun h => by simp at h, fun _ v hv => ?_⟩)
    simp at hv
    subst hv
    exact h1
  simp only [Act.put, List.setIfInBounds_toArray, List.set_cons_zero, List.set_cons_succ]
  refine gG_step (v := v3) (by rfl) (fun h' u K hT hK => ?_) ?_
  · go_simp
    exact hK _ hT
  simp only [Act.put, List.setIfInBounds_toArray, List.set_cons_zero, List.set_cons_succ]
  refine g_nil (fun u hT => ?_)
  have h3 := hide (hT.three rfl v3 rfl)
  have hb := hide hT.below
  clear hT
  go_wp2
  go_ret
  exact ⟨_, rfl, h3.out, hb.out⟩
theorem OwnS.less {w : World} {N M : Nat} {v : Value} {S : List (List UInt8)} (h : OwnS w N v S) (hM : M ≤ N) : OwnS w M v S := by
  obtain ⟨h1, h2⟩ := h
  refine ⟨h1, ?_⟩
  rcases h2 with h2 | ⟨g, cap, cur, e, hb, r⟩
  · exact .inl h2
  · exact .inr ⟨g, cap, cur, e, Nat.le_trans hM hb, r⟩
set_option maxHeartbeats 1600000 in
theorem insert_some (b cap : Nat) (S : List (List UInt8)) (p : List UInt8) (w : World) (hs : ∀ j q, S[j]? = some q → w.cell? ⟨b, j, none⟩ = some (tv q)) (hc : S.length ≤ cap) (hm : cap ≤ maxLen) (hbig : S.length ≤ 900000) (hpl : place S p ≤ S.length) :
    Calls Tryd.prog 78 #[.slice (some ⟨b, 0, none⟩) S.length cap, .string (bs p)] w fun e w' => ∃ v, e = .returned v ∧ OwnS w' w.heap.size v (S.take (place S p) ++ [p] ++ S.drop (place S p)) ∧ Below w.heap.size w w' := by
  have HS := hide (search_c (some ⟨b, 0, none⟩) cap S p w ⟨b, 0, fun _ => rfl, fun i q hq => by rw [Nat.zero_add]; exact hs i q hq⟩ (by omega))
  have Hs := hide hs
  clear hs
  have hm' : cap ≤ 9223372036854775807 := by unfold maxLen at hm; omega
  generalize place S p = k at HS hpl ⊢
  go_enter Tryd.func78, Tryd.ntmps78
  go_wp2_with fail
  refine HS.out.mono ?_
  rintro e w' ⟨f, rfl, q, rfl⟩
  clear HS
  go_wp2_with fail
  obtain ⟨A2, hA2⟩ : ∃ A2 : Option Addr, A2 = if cap = k then some ⟨b, 0, none⟩ else some ⟨b, k, none⟩ := ⟨_, rfl⟩
  have HR : Hid (SrcS w A2 (S.drop k)) := hide ⟨b, k, fun h0 => by rw [List.length_drop] at h0; rw [hA2, if_neg (by omega)], fun i q hq => by
    rw [List.getElem?_drop] at hq
    exact Hs.out _ q hq⟩
  have HA := hide hA2
  clear hA2
  refine wp_region_g (T w p (S.take k ++ [p]) (S.take k ++ [p] ++ S.drop k)) [some (some (.slice (some ⟨b, 0, none⟩) k k)), some (some (.string (bs p))), none, none, some (some (.slice (some ⟨b, 0, none⟩) S.length cap)), some (some (.int .i64 (k : Int))), some (some (.slice A2 (S.length - k) (cap - k))), none, some none] (by kernel_rfl) (by kernel_rfl) [2, 3, 7] [2, 3, 7, 8] (by rfl) (by rfl) (by kernel_rfl) ⟨⟨rfl, rfl, rfl, Nat.le_refl _, fun _ _ => rfl⟩, fun h => by simp at h, fun h => by simp at h, fun h => by simp at h⟩ ?_
  refine gF_step (by rfl) (fun h u K hT hK => ?_) ?_
  · go_simp
    exact hK _ hT
  simp only [Act.put, List.setIfInBounds_toArray, List.set_cons_zero, List.set_cons_succ]
  refine gF_step (by rfl) (fun h u K hT hK => ?_) ?_
  · go_simp
    exact hK _ hT
  simp only [Act.put, List.setIfInBounds_toArray, List.set_cons_zero, List.set_cons_succ]
  refine gD_step (fun v => ∃ B, v = .slice (some ⟨B, 0, none⟩) 1 1) ⟨_, 0, rfl⟩ (by rfl) (fun u K hT hK => ?_) (fun v1 hv1 => ?_)
  · go_simp
    have hb := below_new u (.cells #[tv p] 9)
    exact hK _ _ ⟨_, rfl⟩ ⟨keepB hb (Nat.le_refl _) hT.below, fun _ v hv => by simp at hv; subst hv; exact ⟨_, rfl, heap_last _ _⟩, fun h => by simp at h, fun h => by simp at h⟩
  obtain ⟨B1, rfl⟩ := hv1
  simp only [Act.put, List.setIfInBounds_toArray, List.set_cons_zero, List.set_cons_succ]
  refine gD_step (fun v => ∃ a n c, v = .slice a n c) ⟨_, none, 0, 0, rfl⟩ (by rfl) (fun u K hT hK => ?_) (fun v2 hv2 => ?_)
  · obtain ⟨B, e, hB⟩ := hT.one rfl _ rfl
    simp only [Value.slice.injEq, Option.some.injEq, Addr.mk.injEq, and_true] at e
    subst e
    obtain ⟨cap', w', hrun, h1, h2⟩ := append_front u 52 ⟨b, 0, none⟩ (S.take k) p B1 1 9 (0, 0) (fun j q hq => by
        rw [Addr.add_mid, Nat.zero_add]
        have hj : j < k := by have := (List.getElem?_eq_some_iff.1 hq).1; rw [List.length_take] at this; omega
        rw [List.getElem?_take_of_lt hj] at hq
        exact keepC hT.below (Nat.le_refl _) (Hs.out j q hq)) hB (by rw [List.length_take]; omega)
    have hl : (S.take k).length = k := by rw [List.length_take]; omega
    rw [hl] at hrun
    have hb' := hT.below.trans (h2.mono hT.below.size)
    refine kUpon_append (.tmp 18) (.tmp 20) rfl hrun (hK _ _ ⟨_, _, _, rfl⟩ ⟨hb', fun h => by simp at h, fun _ v hv => ?_, fun h => by simp at h⟩)
    simp at hv
    subst hv
    rw [hl] at h1
    exact OwnS.less h1 hT.below.size
  obtain ⟨a2, n2, c2, rfl⟩ := hv2
  simp only [Act.put, List.setIfInBounds_toArray, List.set_cons_zero, List.set_cons_succ]
  refine gF_step (by rfl) (fun h u K hT hK => ?_) ?_
  · go_simp
    exact hK _ hT
  simp only [Act.put, List.setIfInBounds_toArray, List.set_cons_zero, List.set_cons_succ]
  refine gF_step (by rfl) (fun h u K hT hK => ?_) ?_
  · go_simp
    exact hK _ hT
  simp only [Act.put, List.setIfInBounds_toArray, List.set_cons_zero, List.set_cons_succ]
  refine gF_step (by rfl) (fun h u K hT hK => ?_) ?_
  · go_simp
    rw [← HA.out]
    exact hK _ hT
  simp only [Act.put, List.setIfInBounds_toArray, List.set_cons_zero, List.set_cons_succ]
  refine gD_step (fun v => True) ⟨undef, trivial⟩ (by rfl) (fun u K hT hK => ?_) (fun v3 hv3 => ?_)
  · have h0 := hT.two rfl _ rfl
    obtain ⟨v', w', hrun, h1, h2⟩ := append_rest u 52 _ w.heap.size (S.take k ++ [p]) (S.drop k) A2 (cap - k) h0 (HR.out.below hT.below) hT.below.size (by simp; omega)
    rw [List.length_drop] at hrun
    refine kUpon_append (.tmp 21) (.tmp 24) rfl hrun (hK _ _ trivial ⟨hT.below.trans h2, fun h => by simp at h, fun h => by simp at h, fun _ v hv => ?_⟩)
    simp at hv
    subst hv
    exact h1
  simp only [Act.put, List.setIfInBounds_toArray, List.set_cons_zero, List.set_cons_succ]
  refine gG_step (v := v3) (by rfl) (fun h' u K hT hK => ?_) ?_
  · go_simp
    exact hK _ hT
  simp only [Act.put, List.setIfInBounds_toArray, List.set_cons_zero, List.set_cons_succ]
  refine g_nil (fun u hT => ?_)
  have h3 := hide (hT.three rfl v3 rfl)
  have hb := hide hT.below
  clear hT
  go_wp2
  go_ret
  exact ⟨_, rfl, h3.out, hb.out⟩
/-- A text among those in their order. -/
def ins (S : List (List UInt8)) (p : List UInt8) : List (List UInt8) := S.take (place S p) ++ [p] ++ S.drop (place S p)
theorem bsGo_le (less : Nat → Bool) : ∀ (f lo hi : Nat), lo ≤ hi → Lib.bsGo less f lo hi ≤ hi
  | 0, lo, hi, h => by simpa [Lib.bsGo] using h
  | f + 1, lo, hi, h => by
    unfold Lib.bsGo
    split
    · split
      · exact bsGo_le less f _ _ (by omega)
      · exact Nat.le_trans (bsGo_le less f _ _ (by omega)) (by omega)
    · exact h
theorem place_le (S : List (List UInt8)) (p : List UInt8) : place S p ≤ S.length := by
  unfold place
  exact bsGo_le _ _ _ _ (Nat.zero_le _)
theorem insert_c (N : Nat) (v : Value) (S : List (List UInt8)) (p : List UInt8) (w : World) (h : OwnS w N v S) (hbig : S.length ≤ 900000) :
    Calls Tryd.prog 78 #[v, .string (bs p)] w fun e w' => ∃ v', e = .returned v' ∧ OwnS w' w.heap.size v' (ins S p) ∧ Below w.heap.size w w' := by
  rcases h.2 with ⟨rfl, hn⟩ | ⟨g, cap, cur, rfl, hb, hg, hl, hm, hs, ht⟩
  · obtain rfl : S = [] := List.length_eq_zero_iff.1 hn
    exact insert_nil p w
  · obtain ⟨b, off, h1, h2⟩ := h.src
    refine insert_some g cap S p w (fun j q hq => ?_) hl hm hbig (place_le S p)
    have h3 := h1 (by have := (List.getElem?_eq_some_iff.1 hq).1; omega)
    injection h3 with h3
    injection h3 with e1 e2
    have h4 := h2 j q hq
    rw [← e1, ← e2, Nat.zero_add] at h4
    exact h4
end Go.Proofs.YtlhjkacdhfchiaaDoor.Pv
