/- Texts of the call's own, changed in place; sorting by exchange, plainly. -/
import Derived.Test.YtlhjkacdhfchiaaDoorPy
namespace Go.Proofs.YtlhjkacdhfchiaaDoor.Psw
set_option linter.unusedVariables false
set_option linter.unusedSimpArgs false
open Go.RowKit
open Go.Proofs.YtlhjkacdhfchiaaDoor.Wu Go.Proofs.YtlhjkacdhfchiaaDoor.Pd Go.Proofs.YtlhjkacdhfchiaaDoor.Ps Go.Proofs.YtlhjkacdhfchiaaDoor.Pu Go.Proofs.YtlhjkacdhfchiaaDoor.Pv Go.Proofs.YtlhjkacdhfchiaaDoor.Py
theorem own_blk {w : World} {N g n cap : Nat} {S : List Tx} (h : OwnS w N (.slice (some ⟨g, 0, none⟩) n cap) S) : ∃ cur, w.heap[g]? = some (.cells cur 9 (0, 0)) ∧ cur.toList.take S.length = S.map tv ∧ n = S.length ∧ N ≤ g ∧ S.length ≤ cur.size := by
  obtain ⟨h1, h2⟩ := h
  rcases h2 with ⟨h2, _⟩ | ⟨g', cap', cur, hv, hb, hg, hl, hm, hs, ht⟩
  · cases h2
  · injection hv with e1 e2 e3
    injection e1 with e1
    injection e1 with e1
    subst e1
    rw [Nat.mul_one] at ht hs
    exact ⟨cur, hg, ht, e2, hb, by omega⟩
theorem own_cell {w : World} {N g n cap i : Nat} {S : List Tx} {p : Tx} (h : OwnS w N (.slice (some ⟨g, 0, none⟩) n cap) S) (hi : S[i]? = some p) : w.cell? ⟨g, i, none⟩ = some (.string (bs p)) := by
  obtain ⟨cur, hg, ht, -, -, hz⟩ := own_blk h
  refine blk_cell hg ?_
  have hil := (List.getElem?_eq_some_iff.1 hi).1
  have : (cur.toList.take S.length)[i]? = some (tv p) := by rw [ht, List.getElem?_map, hi]; rfl
  rw [List.getElem?_take_of_lt hil] at this
  simpa [tv] using this
theorem own_free {w : World} {N g n cap i : Nat} {S : List Tx} (h : OwnS w N (.slice (some ⟨g, 0, none⟩) n cap) S) : w.frozen? ⟨g, i, none⟩ = false := by
  obtain ⟨cur, hg, -⟩ := own_blk h
  exact blk_free hg
theorem own_set {w : World} {N g n cap i : Nat} {S : List Tx} (p : Tx) (h : OwnS w N (.slice (some ⟨g, 0, none⟩) n cap) S) (hi : i < S.length) : OwnS (w.setCell ⟨g, i, none⟩ (.string (bs p))) N (.slice (some ⟨g, 0, none⟩) n cap) (S.set i p) := by
  obtain ⟨h1, h2⟩ := h
  refine ⟨by simp, ?_⟩
  rcases h2 with ⟨h2, _⟩ | ⟨g', cap', cur, hv, hb, hg, hl, hm, hs, ht⟩
  · cases h2
  · injection hv with e1 e2 e3
    injection e1 with e1
    injection e1 with e1
    subst e1 e2 e3
    refine .inr ⟨g, cap, cur.setIfInBounds i (.string (bs p)), by rw [List.length_set], hb, blk_set hg _, by rw [List.length_set]; exact hl, hm, by rw [Array.size_setIfInBounds]; exact hs, ?_⟩
    rw [Array.toList_setIfInBounds, List.length_set, List.take_set, ht, List.map_set]
    rfl
/-- The first i stand, and are the least. -/
def Std (out : List Tx) (i : Nat) : Prop := ∀ a b x y, a < i → a < b → out[a]? = some x → out[b]? = some y → ¬ y < x
/-- And the one at i is the least of those ahead of k. -/
def Mid (out : List Tx) (i k : Nat) : Prop := ∀ b x y, i < b → b < k → out[i]? = some x → out[b]? = some y → ¬ y < x
theorem swap_perm {out : List Tx} {i k : Nat} {x y : Tx} (hi : out[i]? = some x) (hk : out[k]? = some y) : ((out.set i y).set k x).Perm out := by
  obtain ⟨h1, e1⟩ := List.getElem?_eq_some_iff.1 hi
  obtain ⟨h2, e2⟩ := List.getElem?_eq_some_iff.1 hk
  have := (Array.swap_perm (xs := out.toArray) (i := i) (j := k) (by simpa using h1) (by simpa using h2)).toList
  rw [Array.toList_swap] at this
  simpa [e1, e2] using this
theorem at_swap {out : List Tx} {i k c : Nat} {x y : Tx} (hik : i ≠ k) (hi : out[i]? = some x) (hk : out[k]? = some y) : ((out.set i y).set k x)[c]? = if c = k then some x else if c = i then some y else out[c]? := by
  obtain ⟨h1, -⟩ := List.getElem?_eq_some_iff.1 hi
  obtain ⟨h2, -⟩ := List.getElem?_eq_some_iff.1 hk
  by_cases hck : c = k
  · subst hck
    rw [if_pos rfl, List.getElem?_set_self (by rw [List.length_set]; exact h2)]
  · rw [if_neg hck, List.getElem?_set_ne (fun e => hck e.symm)]
    by_cases hci : c = i
    · subst hci
      rw [if_pos rfl, List.getElem?_set_self h1]
    · rw [if_neg hci, List.getElem?_set_ne (fun e => hci e.symm)]
theorem std_swap {out : List Tx} {i k : Nat} {x y : Tx} (hik : i < k) (hi : out[i]? = some x) (hk : out[k]? = some y) (hs : Std out i) : Std ((out.set i y).set k x) i := by
  intro a b u v ha hab hu hv
  rw [at_swap (by omega) hi hk, if_neg (by omega), if_neg (by omega)] at hu
  rw [at_swap (by omega) hi hk] at hv
  split at hv
  · injection hv with hv
    subst hv
    exact hs a i u x ha ha hu hi
  · split at hv
    · injection hv with hv
      subst hv
      exact hs a k u y ha (by omega) hu hk
    · exact hs a b u v ha hab hu hv
theorem mid_swap {out : List Tx} {i k : Nat} {x y : Tx} (hik : i < k) (hi : out[i]? = some x) (hk : out[k]? = some y) (hlt : y < x) (hm : Mid out i k) : Mid ((out.set i y).set k x) i (k + 1) := by
  intro b u v hib hb hu hv
  rw [at_swap (by omega) hi hk, if_neg (by omega), if_pos rfl] at hu
  injection hu with hu
  subst hu
  rw [at_swap (by omega) hi hk] at hv
  split at hv
  · injection hv with hv
    subst hv
    exact List.lt_asymm hlt
  · rw [if_neg (by omega)] at hv
    intro hvy
    exact hm b x v hib (by omega) hi hv (List.lt_trans hvy hlt)
theorem mid_keep {out : List Tx} {i k : Nat} {x y : Tx} (hi : out[i]? = some x) (hk : out[k]? = some y) (hlt : ¬ y < x) (hm : Mid out i k) : Mid out i (k + 1) := by
  intro b u v hib hb hu hv
  by_cases hbk : b = k
  · subst hbk
    rw [hi] at hu
    rw [hk] at hv
    injection hu with hu
    injection hv with hv
    subst hu hv
    exact hlt
  · exact hm b u v hib (by omega) hu hv
theorem std_next {out : List Tx} {i : Nat} (hs : Std out i) (hm : Mid out i out.length) : Std out (i + 1) := by
  intro a b u v ha hab hu hv
  by_cases hai : a = i
  · subst hai
    exact hm b u v hab (List.getElem?_eq_some_iff.1 hv).1 hu hv
  · exact hs a b u v (by omega) hab hu hv
/-- What is sorted, and of the list, is the one. -/
theorem std_eq {out S : List Tx} (hs : Std out out.length) (hS : Srt S) (hp : S.Perm out) : out = S := by
  have h1 : out.Pairwise (fun a b => ¬ b < a) := by
    rw [List.pairwise_iff_getElem]
    intro a b ha hb hab
    exact hs a b out[a] out[b] ha hab (List.getElem?_eq_getElem ha) (List.getElem?_eq_getElem hb)
  have h2 : S.Pairwise (fun a b => ¬ b < a) := List.Pairwise.imp (fun h => List.lt_asymm h) hS
  exact List.Perm.eq_of_pairwise (fun a b _ _ h h' => tx_eq h' h) h1 h2 hp.symm
end Go.Proofs.YtlhjkacdhfchiaaDoor.Psw
