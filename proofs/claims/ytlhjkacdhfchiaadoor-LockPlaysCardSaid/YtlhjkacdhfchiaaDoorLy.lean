/- LockEnds, plainly: what holds while they are served. -/
import Derived.Test.YtlhjkacdhfchiaaDoorLx
namespace Go.Proofs.YtlhjkacdhfchiaaDoor.Ly
set_option linter.unusedVariables false
set_option linter.unusedSimpArgs false
set_option maxRecDepth 100000
open Go.Proofs.YtlhjkacdhfchiaaDoor.Lb Go.Proofs.YtlhjkacdhfchiaaDoor.Lg Go.Proofs.YtlhjkacdhfchiaaDoor.Lh Go.Proofs.YtlhjkacdhfchiaaDoor.Li Go.Proofs.YtlhjkacdhfchiaaDoor.Lk Go.Proofs.YtlhjkacdhfchiaaDoor.Lu Go.Proofs.YtlhjkacdhfchiaaDoor.Lv Go.Proofs.YtlhjkacdhfchiaaDoor.Lx
theorem once_eq {L : List Wh} (ho : Once L) {i j : Nat} {x y : Wh} (hx : L[i]? = some x) (hy : L[j]? = some y) (he : x.1 = y.1) : i = j := by
  obtain ⟨hi, ei⟩ := List.getElem?_eq_some_iff.1 hx
  obtain ⟨hj, ej⟩ := List.getElem?_eq_some_iff.1 hy
  rcases Nat.lt_trichotomy i j with h | h | h
  · have := List.pairwise_iff_getElem.1 ho i j hi hj h
    rw [ei, ej] at this
    exact absurd he this
  · exact h
  · have := List.pairwise_iff_getElem.1 ho j i hj hi h
    rw [ei, ej] at this
    exact absurd he.symm this
theorem free_at {L : List Wh} (ho : Once L) {i : Nat} {x : Wh} (hx : L[i]? = some x) : Free L x.1 ↔ freeL L i = true := by
  constructor
  · rintro ⟨j, y, hy, he, hf⟩
    have := once_eq ho hy hx he
    rw [← this]; exact hf
  · intro h
    exact ⟨i, x, hx, rfl, h⟩
/-- A sublist keeps the order. -/
theorem sub_order {S L0 : List Wh} (hs : S.Sublist L0) (ho : Once L0) {p q a b : Nat} {x y : Wh} (hp : S[p]? = some x) (hq : S[q]? = some y) (ha : L0[a]? = some x) (hb : L0[b]? = some y) (hab : b < a) : q < p := by
  have hP : L0.Pairwise (fun u v => ¬ (u.1 = x.1 ∧ v.1 = y.1)) := List.pairwise_iff_getElem.2 fun s t h1 h2 hst => by
    rintro ⟨e1, e2⟩
    have s1 := once_eq ho (List.getElem?_eq_getElem h1) ha e1
    have s2 := once_eq ho (List.getElem?_eq_getElem h2) hb e2
    omega
  have hS := hP.sublist hs
  obtain ⟨hpl, ep⟩ := List.getElem?_eq_some_iff.1 hp
  obtain ⟨hql, eq⟩ := List.getElem?_eq_some_iff.1 hq
  rcases Nat.lt_trichotomy q p with h | h | h
  · exact h
  · subst h
    rw [hp] at hq
    injection hq with hq
    have := once_eq ho ha hb (by rw [hq])
    omega
  · have := List.pairwise_iff_getElem.1 hS p q hpl hql h
    rw [ep, eq] at this
    exact absurd ⟨rfl, rfl⟩ this
structure J (L0 L : List Wh) (has H : List Int) : Prop where
  sub : L.Sublist L0
  once : Once L0
  free : ∀ w, w ∈ has ↔ Free L w
  nd : has.Nodup
  keys : ∀ w, w ∈ H ↔ (∃ x ∈ L0, x.1 = w) ∧ ((∀ x ∈ L, x.1 ≠ w) ∨ w ∈ has)
  ndH : H.Nodup
  ord : ∀ (i j : Nat) (x y : Wh), L0[i]? = some x → L0[j]? = some y → j < i → way x.2 y.2 = true → ∀ p : Nat, H[p]? = some x.1 → ∃ q : Nat, q < p ∧ H[q]? = some y.1
theorem J.start {L0 : List Wh} {has : List Int} (ho : Once L0) (hf : ∀ w, w ∈ has ↔ Free L0 w) (hn : has.Nodup) : J L0 L0 has has := by
  refine ⟨List.Sublist.refl _, ho, hf, hn, fun w => ⟨fun h => ⟨?_, .inr h⟩, fun h => ?_⟩, hn, fun i j x y hx hy hj hw p hp => ?_⟩
  · obtain ⟨i, x, hx, he, _⟩ := (hf w).1 h
    exact ⟨x, List.mem_of_getElem? hx, he⟩
  · obtain ⟨⟨x, hx, he⟩, h | h⟩ := h
    · exact absurd he (h x hx)
    · exact h
  · have h1 := (hf x.1).1 (List.mem_of_getElem? hp)
    have h2 := (free_at ho hx).1 h1
    rw [free_way h2 hx hy hj] at hw
    cases hw
theorem cut_sub (L : List Wh) (i : Nat) : (cut L i).Sublist L := by
  unfold cut
  conv => rhs; rw [← List.take_append_drop i L]
  exact List.Sublist.append (List.Sublist.refl _) (by rw [show L.drop (i + 1) = (L.drop i).drop 1 by rw [List.drop_drop]]; exact List.drop_sublist _ _)
theorem mem_cut {L : List Wh} {i : Nat} {x : Wh} (hx : L[i]? = some x) (z : Wh) : z ∈ L ↔ z = x ∨ z ∈ cut L i := by
  conv => lhs; rw [Km.split_at L i x hx]
  unfold cut
  simp only [List.mem_append, List.mem_cons]
  constructor
  · rintro (h | h | h)
    · exact .inr (.inl h)
    · exact .inl h
    · exact .inr (.inr h)
  · rintro (h | h | h)
    · exact .inr (.inl h)
    · exact .inl h
    · exact .inr (.inr h)
theorem cut_who {L : List Wh} (ho : Once L) {i : Nat} {x : Wh} (hx : L[i]? = some x) : ∀ z ∈ cut L i, z.1 ≠ x.1 := fun z hz e => by
  obtain ⟨hi, _⟩ := List.getElem?_eq_some_iff.1 hx
  obtain ⟨j, hj⟩ := List.getElem?_of_mem hz
  rw [cut_at hi] at hj
  split at hj
  · have := once_eq ho hj hx e
    omega
  · have := once_eq ho hj hx e
    omega
/-- Numbers without the one at a place. -/
def cutI (l : List Int) (i : Nat) : List Int := l.take i ++ l.drop (i + 1)
theorem mem_cutI {l : List Int} (hn : l.Nodup) {i : Nat} {x : Int} (hx : l[i]? = some x) (w : Int) : w ∈ cutI l i ↔ w ∈ l ∧ w ≠ x := by
  have hs := Km.split_at l i x hx
  have hn2 : (l.take i ++ x :: l.drop (i + 1)).Nodup := by rw [← hs]; exact hn
  rw [List.nodup_append] at hn2
  obtain ⟨n1, n2, n3⟩ := hn2
  have n4 := List.nodup_cons.1 n2
  have hm : w ∈ l ↔ w ∈ l.take i ∨ w = x ∨ w ∈ l.drop (i + 1) := by
    conv => lhs; rw [hs]
    simp
  unfold cutI
  rw [hm, List.mem_append]
  constructor
  · rintro (h | h)
    · exact ⟨.inl h, fun e => n3 w h x List.mem_cons_self e⟩
    · exact ⟨.inr (.inr h), fun e => n4.1 (e ▸ h)⟩
  · rintro ⟨h | h | h, hne⟩
    · exact .inl h
    · exact absurd h hne
    · exact .inr h
theorem cutI_nodup {l : List Int} (hn : l.Nodup) (i : Nat) : (cutI l i).Nodup := by
  refine hn.sublist ?_
  unfold cutI
  conv => rhs; rw [← List.take_append_drop i l]
  exact List.Sublist.append (List.Sublist.refl _) (by rw [show l.drop (i + 1) = (l.drop i).drop 1 by rw [List.drop_drop]]; exact List.drop_sublist _ _)
theorem J.step {L0 L : List Wh} {has H : List Int} (h : J L0 L has H) {i at_ : Nat} {x : Wh} (hx : L[i]? = some x) (ha : has[at_]? = some x.1) :
    J L0 (cut L i) (cutI has at_ ++ nx (cut L i) x.2 i (L.length - 1 - i)) (H ++ nx (cut L i) x.2 i (L.length - 1 - i)) := by
  obtain ⟨hi, hxe⟩ := List.getElem?_eq_some_iff.1 hx
  have hoL : Once L := h.once.sublist h.sub
  have hoC : Once (cut L i) := hoL.sublist (cut_sub L i)
  have hxh : x.1 ∈ has := List.mem_of_getElem? ha
  have hfx : freeL L i = true := (free_at hoL hx).1 ((h.free x.1).1 hxh)
  have hfc := free_cut hoL hx hfx
  obtain ⟨ys, hys⟩ : ∃ ys, ys = nx (cut L i) x.2 i (L.length - 1 - i) := ⟨_, rfl⟩
  rw [← hys] at hfc ⊢
  have hsub : (cut L i).Sublist L0 := (cut_sub L i).trans h.sub
  -- who is named wasn't free, and is there
  have ynew : ∀ w ∈ ys, ¬ Free L w ∧ ∃ z ∈ cut L i, z.1 = w := fun w hw => by
    rw [hys] at hw
    obtain ⟨j, y, h1, h2, h3, h4, h5, h6⟩ := nx_iff.1 hw
    refine ⟨fun hF => ?_, y, List.mem_of_getElem? h3, h4⟩
    rw [cut_at hi, if_neg (by omega)] at h3
    rw [← h4] at hF
    have := (free_at hoL h3).1 hF
    rw [free_way this h3 hx (by omega)] at h5
    cases h5
  have hcx := cut_who hoL hx
  have hF' : ∀ w, w ∈ cutI has at_ ++ ys ↔ Free (cut L i) w := fun w => by
    rw [List.mem_append, mem_cutI h.nd ha, h.free w, hfc w]
  refine ⟨hsub, h.once, hF', ?_, fun w => ?_, ?_, fun a b x' y' hx' hy' hb hw p hp => ?_⟩
  · rw [List.nodup_append]
    refine ⟨cutI_nodup h.nd _, by rw [hys]; exact nx_nodup hoC _, fun u hu v hv e => ?_⟩
    subst e
    exact (ynew u hv).1 ((h.free u).1 ((mem_cutI h.nd ha u).1 hu).1)
  · rw [List.mem_append, h.keys w]
    constructor
    · rintro (⟨h1, h2 | h2⟩ | h2)
      · exact ⟨h1, .inl fun z hz => h2 z ((cut_sub L i).subset hz)⟩
      · by_cases e : w = x.1
        · exact ⟨h1, .inl fun z hz => by rw [e]; exact hcx z hz⟩
        · exact ⟨h1, .inr (List.mem_append_left _ ((mem_cutI h.nd ha w).2 ⟨h2, e⟩))⟩
      · obtain ⟨_, z, hz, he⟩ := ynew w h2
        exact ⟨⟨z, hsub.subset hz, he⟩, .inr (List.mem_append_right _ h2)⟩
    · rintro ⟨h1, h2 | h2⟩
      · left
        refine ⟨h1, ?_⟩
        by_cases e : w = x.1
        · exact .inr (e ▸ hxh)
        · refine .inl fun z hz => ?_
          rcases (mem_cut hx z).1 hz with rfl | hz
          · exact fun e2 => e e2.symm
          · exact h2 z hz
      · rcases List.mem_append.1 h2 with h2 | h2
        · exact .inl ⟨h1, .inr ((mem_cutI h.nd ha w).1 h2).1⟩
        · exact .inr h2
  · rw [List.nodup_append]
    refine ⟨h.ndH, by rw [hys]; exact nx_nodup hoC _, fun u hu v hv e => ?_⟩
    subst e
    obtain ⟨n1, z, hz, he⟩ := ynew u hv
    rcases ((h.keys u).1 hu).2 with h2 | h2
    · exact h2 z ((cut_sub L i).subset hz) he
    · exact n1 ((h.free u).1 h2)
  · by_cases hpl : p < H.length
    · rw [List.getElem?_append_left hpl] at hp
      obtain ⟨q, hq, hqe⟩ := h.ord a b x' y' hx' hy' hb hw p hp
      exact ⟨q, hq, by rw [List.getElem?_append_left (by omega)]; exact hqe⟩
    · rw [List.getElem?_append_right (by omega)] at hp
      have hmy : x'.1 ∈ ys := List.mem_of_getElem? hp
      have hfx' : Free (cut L i) x'.1 := (hF' x'.1).1 (List.mem_append_right _ hmy)
      obtain ⟨px, zx, hzx, hze, hfz⟩ := hfx'
      have hzx2 : zx = x' := by
        obtain ⟨ia, hia⟩ := List.getElem?_of_mem (hsub.subset (List.mem_of_getElem? hzx))
        have := once_eq h.once hia hx' hze
        rw [this, hx'] at hia
        injection hia with hia
        exact hia.symm
      subst hzx2
      have hyH : y'.1 ∈ H := by
        rw [h.keys]
        refine ⟨⟨y', List.mem_of_getElem? hy', rfl⟩, ?_⟩
        by_cases hin : ∃ z ∈ L, z.1 = y'.1
        · obtain ⟨z, hz, he⟩ := hin
          have hz2 : z = y' := by
            obtain ⟨ia, hia⟩ := List.getElem?_of_mem (h.sub.subset hz)
            have := once_eq h.once hia hy' he
            rw [this, hy'] at hia
            injection hia with hia
            exact hia.symm
          subst hz2
          rcases (mem_cut hx z).1 hz with e | hz
          · right
            rw [e]; exact hxh
          · exfalso
            obtain ⟨pz, hpz⟩ := List.getElem?_of_mem hz
            have hlt := sub_order hsub h.once hzx hpz hx' hy' hb
            rw [free_way hfz hzx hpz hlt] at hw
            cases hw
        · exact .inl fun z hz e => hin ⟨z, hz, e⟩
      obtain ⟨q, hq⟩ := List.getElem?_of_mem hyH
      have hql := (List.getElem?_eq_some_iff.1 hq).1
      exact ⟨q, by omega, by rw [List.getElem?_append_left hql]; exact hq⟩
/-- When nobody has theirs any more all were served. -/
theorem J.done {L0 L : List Wh} {H : List Int} (h : J L0 L [] H) : L = [] ∧ H.length = L0.length ∧ ∀ x ∈ L0, x.1 ∈ H := by
  have hL : L = [] := by
    cases L with
    | nil => rfl
    | cons x t =>
      have : Free (x :: t) x.1 := ⟨0, x, rfl, rfl, free_zero rfl⟩
      have := (h.free x.1).2 this
      cases this
  subst hL
  have hk : ∀ w, w ∈ H ↔ w ∈ L0.map (·.1) := fun w => by
    rw [h.keys w, List.mem_map]
    simp
  refine ⟨rfl, ?_, fun x hx => (hk _).2 (List.mem_map_of_mem hx)⟩
  have hnd : (L0.map (·.1)).Nodup := List.pairwise_map.2 h.once
  have := ((List.perm_ext_iff_of_nodup h.ndH hnd).2 hk).length_eq
  rw [List.length_map] at this
  exact this
end Go.Proofs.YtlhjkacdhfchiaaDoor.Ly
