/- LockEnds, plainly: releases, one after the other, serve all. -/
import Derived.Test.YtlhjkacdhfchiaaDoorLv
namespace Go.Proofs.YtlhjkacdhfchiaaDoor.Lx
set_option linter.unusedVariables false
set_option linter.unusedSimpArgs false
set_option maxRecDepth 100000
open Go.Proofs.YtlhjkacdhfchiaaDoor.Lb Go.Proofs.YtlhjkacdhfchiaaDoor.Lg Go.Proofs.YtlhjkacdhfchiaaDoor.Lh Go.Proofs.YtlhjkacdhfchiaaDoor.Li Go.Proofs.YtlhjkacdhfchiaaDoor.Lk Go.Proofs.YtlhjkacdhfchiaaDoor.Lu Go.Proofs.YtlhjkacdhfchiaaDoor.Lv
/-- Who has theirs: among L. -/
def Free (L : List Wh) (w : Int) : Prop := ∃ i x, L[i]? = some x ∧ x.1 = w ∧ freeL L i = true
theorem freeL_iff {L : List Wh} {i : Nat} {x : Wh} (hx : L[i]? = some x) : freeL L i = true ↔ ∀ j y, j < i → L[j]? = some y → way x.2 y.2 = false := by
  constructor
  · intro h j y hj hy
    exact free_way h hx hy hj
  · intro h
    unfold freeL
    rw [hx]
    simp only [Bool.not_eq_true']
    rw [List.any_eq_false]
    intro y hy
    obtain ⟨j, hj, he⟩ := List.mem_iff_getElem.1 hy
    rw [List.length_take] at hj
    have hy2 : L[j]? = some y := by
      rw [List.getElem_take] at he
      rw [List.getElem?_eq_getElem (by omega), he]
    have := h j y (by omega) hy2
    simp [this]
/-- The list without its i-th. -/
def cut (L : List Wh) (i : Nat) : List Wh := L.take i ++ L.drop (i + 1)
theorem cut_at {L : List Wh} {i : Nat} (hi : i < L.length) (j : Nat) : (cut L i)[j]? = if j < i then L[j]? else L[j + 1]? := by
  unfold cut
  by_cases h : j < i
  · rw [if_pos h, List.getElem?_append_left (by rw [List.length_take]; omega), List.getElem?_take_of_lt h]
  · rw [if_neg h, List.getElem?_append_right (by rw [List.length_take]; omega), List.length_take, List.getElem?_drop]
    congr 1
    omega
theorem cut_len {L : List Wh} {i : Nat} (hi : i < L.length) : (cut L i).length + 1 = L.length := by
  unfold cut
  rw [List.length_append, List.length_take, List.length_drop]
  omega
/-- Of those behind the released one, who had it in the way, and is free now, is named; all others are as they were. -/
theorem nx_iff {L : List Wh} {T : List (List UInt8)} {i : Nat} : ∀ {k : Nat} {w : Int}, w ∈ nx L T i k ↔ ∃ j y, i ≤ j ∧ j < i + k ∧ L[j]? = some y ∧ y.1 = w ∧ way y.2 T = true ∧ freeL L j = true
  | 0, w => by
    simp only [nx, List.not_mem_nil, false_iff]
    rintro ⟨j, y, h1, h2, _⟩
    omega
  | k + 1, w => by
    rw [nx, List.mem_append, nx_iff (k := k)]
    constructor
    · rintro (⟨j, y, h1, h2, h⟩ | h)
      · exact ⟨j, y, h1, by omega, h⟩
      · cases hy : L[i + k]? with
        | none => rw [hy] at h; cases h
        | some y =>
          rw [hy] at h
          simp only at h
          split at h
          · rename_i hc
            rw [List.mem_singleton.1 h]
            simp only [Bool.and_eq_true] at hc
            exact ⟨i + k, y, by omega, by omega, hy, rfl, hc.1, hc.2⟩
          · cases h
    · rintro ⟨j, y, h1, h2, h3, h4, h5, h6⟩
      by_cases hj : j < i + k
      · exact .inl ⟨j, y, h1, hj, h3, h4, h5, h6⟩
      · right
        obtain rfl : j = i + k := by omega
        rw [h3]
        simp only
        rw [if_pos (by simp [h5, h6]), h4]
        exact List.mem_singleton.2 rfl
theorem nx_nodup {L : List Wh} {T : List (List UInt8)} {i : Nat} (ho : Once L) : ∀ k, (nx L T i k).Nodup
  | 0 => List.nodup_nil
  | k + 1 => by
    rw [nx]
    have ih := nx_nodup (T := T) (i := i) ho k
    cases hy : L[i + k]? with
    | none => simpa using ih
    | some y =>
      simp only
      split
      · rw [List.nodup_append]
        refine ⟨ih, List.pairwise_singleton _ _, fun a ha b hb e => ?_⟩
        rw [List.mem_singleton.1 hb] at e
        obtain ⟨j, z, h1, h2, h3, h4, _⟩ := nx_iff.1 ha
        obtain ⟨hj, ej⟩ := List.getElem?_eq_some_iff.1 h3
        obtain ⟨hk, ek⟩ := List.getElem?_eq_some_iff.1 hy
        have := List.pairwise_iff_getElem.1 ho j (i + k) hj hk h2
        rw [ej, ek, h4, e] at this
        exact this rfl
      · simpa using ih
theorem free_cut {L : List Wh} {i : Nat} {x : Wh} (ho : Once L) (hx : L[i]? = some x) (hf : freeL L i = true) (w : Int) :
    Free (cut L i) w ↔ (Free L w ∧ w ≠ x.1) ∨ w ∈ nx (cut L i) x.2 i (L.length - 1 - i) := by
  obtain ⟨hi, hxe⟩ := List.getElem?_eq_some_iff.1 hx
  have hl := cut_len hi
  have hne : ∀ j y, L[j]? = some y → j ≠ i → y.1 ≠ x.1 := fun j y hy hji e => by
    obtain ⟨hj, he⟩ := List.getElem?_eq_some_iff.1 hy
    rcases Nat.lt_or_gt_of_ne hji with h | h
    · have := List.pairwise_iff_getElem.1 ho j i hj hi h
      rw [he, hxe] at this
      exact this e
    · have := List.pairwise_iff_getElem.1 ho i j hi hj h
      rw [he, hxe] at this
      exact this e.symm
  -- before the released one nothing turns; behind it, it alone has gone
  have key : ∀ j y, (cut L i)[j]? = some y → (freeL (cut L i) j = true ↔ ∀ q z, q < (if j < i then j else j + 1) → q ≠ i → L[q]? = some z → way y.2 z.2 = false) := fun j y hy => by
    rw [freeL_iff hy]
    constructor
    · intro h q z hq hqi hz
      by_cases hqi2 : q < i
      · refine h q z ?_ (by rw [cut_at hi, if_pos hqi2]; exact hz)
        split at hq <;> omega
      · refine h (q - 1) z ?_ (by rw [cut_at hi, if_neg (by omega), show q - 1 + 1 = q by omega]; exact hz)
        split at hq <;> omega
    · intro h q z hq hz
      rw [cut_at hi] at hz
      by_cases hqi : q < i
      · rw [if_pos hqi] at hz
        refine h q z ?_ (by omega) hz
        split <;> omega
      · rw [if_neg hqi] at hz
        refine h (q + 1) z ?_ (by omega) hz
        rw [if_neg (by omega)]
        omega
  constructor
  · rintro ⟨j, y, hy, hyw, hfj⟩
    have hk := (key j y hy).1 hfj
    have hy0 := hy
    rw [cut_at hi] at hy
    by_cases hji : j < i
    · rw [if_pos hji] at hy hk
      refine .inl ⟨⟨j, y, hy, hyw, (freeL_iff hy).2 fun q z hq hz => hk q z hq (by omega) hz⟩, ?_⟩
      rw [← hyw]
      exact hne j y hy (by omega)
    · rw [if_neg hji] at hy hk
      cases hw : way y.2 x.2 with
      | true =>
        right
        rw [nx_iff]
        have hjl := (List.getElem?_eq_some_iff.1 hy0).1
        exact ⟨j, y, by omega, by omega, hy0, hyw, hw, hfj⟩
      | false =>
        left
        refine ⟨⟨j + 1, y, hy, hyw, (freeL_iff hy).2 fun q z hq hz => ?_⟩, by rw [← hyw]; exact hne (j + 1) y hy (by omega)⟩
        by_cases hqi : q = i
        · subst hqi
          rw [hx] at hz
          injection hz with hz
          rw [← hz]
          exact hw
        · exact hk q z (by omega) hqi hz
  · rintro (⟨⟨j, y, hy, hyw, hfj⟩, hwx⟩ | h)
    · have hji : j ≠ i := fun e => by
        subst e
        rw [hx] at hy
        injection hy with hy
        exact hwx (by rw [← hyw, ← hy])
      have hk := (freeL_iff hy).1 hfj
      by_cases hlt : j < i
      · have hc : (cut L i)[j]? = some y := by rw [cut_at hi, if_pos hlt]; exact hy
        exact ⟨j, y, hc, hyw, (key j y hc).2 fun q z hq hqi hz => hk q z (by rw [if_pos hlt] at hq; exact hq) hz⟩
      · have hc : (cut L i)[j - 1]? = some y := by rw [cut_at hi, if_neg (by omega), show j - 1 + 1 = j by omega]; exact hy
        exact ⟨j - 1, y, hc, hyw, (key (j - 1) y hc).2 fun q z hq hqi hz => hk q z (by rw [if_neg (by omega)] at hq; omega) hz⟩
    · obtain ⟨j, y, h1, h2, h3, h4, h5, h6⟩ := nx_iff.1 h
      exact ⟨j, y, h3, h4, h6⟩
end Go.Proofs.YtlhjkacdhfchiaaDoor.Lx
