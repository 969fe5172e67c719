/- LockPlays: the Locks are like the reference's asks. -/
import Derived.Test.YtlhjkacdhfchiaaDoorNd
import Derived.Test.YtlhjkacdhfchiaaDoorLo
import Derived.Test.YtlhjkacdhfchiaaDoorLt
namespace Go.Proofs.YtlhjkacdhfchiaaDoor.Ne
set_option linter.unusedVariables false
set_option linter.unusedSimpArgs false
set_option maxRecDepth 100000
open Go.ChangeShapes Go.WideShapes Go.ChangeAt Go.RowKit
open Go.Proofs.YtlhjkacdhfchiaaDoor.Wu Go.Proofs.YtlhjkacdhfchiaaDoor.Rk Go.Proofs.YtlhjkacdhfchiaaDoor.Pm Go.Proofs.YtlhjkacdhfchiaaDoor.Pd Go.Proofs.YtlhjkacdhfchiaaDoor.Ps Go.Proofs.YtlhjkacdhfchiaaDoor.Pu Go.Proofs.YtlhjkacdhfchiaaDoor.Pv Go.Proofs.YtlhjkacdhfchiaaDoor.Px Go.Proofs.YtlhjkacdhfchiaaDoor.La Go.Proofs.YtlhjkacdhfchiaaDoor.Lb Go.Proofs.YtlhjkacdhfchiaaDoor.Lc Go.Proofs.YtlhjkacdhfchiaaDoor.Le Go.Proofs.YtlhjkacdhfchiaaDoor.Lg Go.Proofs.YtlhjkacdhfchiaaDoor.Lh Go.Proofs.YtlhjkacdhfchiaaDoor.Li Go.Proofs.YtlhjkacdhfchiaaDoor.Lk Go.Proofs.YtlhjkacdhfchiaaDoor.Lo Go.Proofs.YtlhjkacdhfchiaaDoor.Lu Go.Proofs.YtlhjkacdhfchiaaDoor.Lx Go.Proofs.YtlhjkacdhfchiaaDoor.Na Go.Proofs.YtlhjkacdhfchiaaDoor.Nb Go.Proofs.YtlhjkacdhfchiaaDoor.Nc Go.Proofs.YtlhjkacdhfchiaaDoor.Nd
attribute [local go_sem] kUpon_value kUpon_skip kUpon_enter
/-- Who has a path, as those before the k-th tell. -/
def seen (L : List Wh) (p : List UInt8) : Nat → Int × Bool
  | 0 => (0, false)
  | k + 1 => match L[k]? with
    | some x => if freeL L k && hasP p x.2 then (x.1, true) else seen L p k
    | none => seen L p k
theorem seen_at {L : List Wh} {p : List UInt8} {k : Nat} {x : Wh} (h : L[k]? = some x) : seen L p (k + 1) = if freeL L k && hasP p x.2 then (x.1, true) else seen L p k := by
  rw [seen, h]
theorem hasP_mem {p : List UInt8} {T : List (List UInt8)} : hasP p T = true ↔ p ∈ T := by
  unfold hasP
  rw [List.any_eq_true]
  constructor
  · rintro ⟨q, hq, h⟩
    have : q = p := by simpa [isP] using h
    exact this ▸ hq
  · intro h
    exact ⟨p, h, by simp [isP]⟩
theorem seen_all (L : List Wh) (p : List UInt8) : seen L p L.length = holdL L p := by
  have h0 : ∀ k, (∀ (j : Nat) (x : Wh), j < k → L[j]? = some x → hasP p x.2 = false) → seen L p k = (0, false) := by
    intro k
    induction k with
    | zero => intro _; rfl
    | succ k ih =>
      intro h
      rw [seen]
      have hk := ih fun j x hj hx => h j x (by omega) hx
      cases hx : L[k]? with
      | none => exact hk
      | some x =>
        simp only
        rw [h k x (by omega) hx, Bool.and_false]
        simpa using hk
  unfold holdL
  cases hf : L.findIdx? (fun x => hasP p x.2) with
  | none =>
    rw [List.findIdx?_eq_none_iff] at hf
    exact h0 _ fun j x _ hx => hf x (List.mem_of_getElem? hx)
  | some i =>
    obtain ⟨hi, he, hb⟩ := List.findIdx?_eq_some_iff_getElem.1 hf
    have hx : L[i]? = some L[i] := List.getElem?_eq_getElem hi
    obtain ⟨x, hxe⟩ : ∃ x, x = L[i] := ⟨_, rfl⟩
    rw [← hxe] at hx he
    have hlow : seen L p i = (0, false) := h0 i fun j y hj hy => by
      obtain ⟨hjl, hje⟩ := List.getElem?_eq_some_iff.1 hy
      have := hb j hj
      rw [hje] at this
      simpa using this
    have hup : ∀ d, i + 1 + d ≤ L.length → seen L p (i + 1 + d) = if freeL L i then (x.1, true) else (0, false) := by
      intro d
      induction d with
      | zero =>
        intro _
        rw [Nat.add_zero, seen_at hx, he, Bool.and_true, hlow]
      | succ d ih =>
        intro hd
        have hy : L[i + 1 + d]? = some (L[i + 1 + d]'(by omega)) := List.getElem?_eq_getElem _
        rw [show i + 1 + (d + 1) = (i + 1 + d) + 1 by omega, seen_at hy, ← ih (by omega)]
        rw [if_neg]
        intro hc
        simp only [Bool.and_eq_true] at hc
        obtain ⟨c1, c2⟩ := hc
        have := free_way c1 hy hx (by omega)
        rw [Bool.eq_false_iff] at this
        exact this (way_iff.2 ⟨p, hasP_mem.1 c2, p, hasP_mem.1 he, by unfold hits; simp⟩)
    have := hup (L.length - (i + 1)) (by omega)
    rw [show i + 1 + (L.length - (i + 1)) = L.length by omega] at this
    simp only
    rw [this, hx]
    rfl
/-- One of the reference's asks, by its cells. -/
theorem RkW.at {w : World} {N n c : Nat} {a : Option Addr} {L : List Wh} (h : RkW w N (.slice a n c) L) {k : Nat} {y : Wh} (hy : L[k]? = some y) :
    ∃ g aa cc, a = some ⟨g, 0, none⟩ ∧ w.cell? ⟨g, k * 2, none⟩ = some (.int .i64 y.1) ∧ w.cell? ⟨g, k * 2 + 1, none⟩ = some (.slice aa y.2.length cc) ∧ SrcS w aa y.2 ∧ y.2.length ≤ cc ∧ cc ≤ 9223372036854775807 := by
  obtain ⟨us, h⟩ := h
  obtain ⟨a', c', e, hI, hnone, hsome⟩ := h.own.is
  injection e with e1 e2 e3
  subst e1
  have hkL := (List.getElem?_eq_some_iff.1 hy).1
  have hk : k < us.length := by rw [h.len]; exact hkL
  obtain ⟨-, -, -, g, off, ha, hc⟩ := hI
  have ha := ha (by omega)
  obtain ⟨g2, e4⟩ := hsome _ ha
  injection e4 with e4 e5
  subst e4 e5
  have hu := List.getElem?_eq_getElem hk
  obtain ⟨c0, c1⟩ := hc k _ hu
  obtain ⟨w1, hO⟩ := h.each k _ y hu hy
  rw [Nat.zero_add] at c0 c1
  rw [w1] at c0
  obtain ⟨aa, cap, e6, hl, hm, -, -⟩ := hO.form
  rw [e6] at c1 hO
  unfold maxLen at hm
  exact ⟨g, aa, cap, ha, c0, c1, hO.src, hl, by omega⟩
theorem RkW.len {w : World} {N n c : Nat} {a : Option Addr} {L : List Wh} (h : RkW w N (.slice a n c) L) : n = L.length := by
  obtain ⟨us, h⟩ := h
  obtain ⟨a', c', e, -⟩ := h.own.is
  injection e with e1 e2 e3
  rw [e2, h.len]
theorem has_find {L : List Wh} {who : Int} (h : hasL L who = true) : decide (placeL L who < 0) = false := by
  unfold hasL at h
  cases hf : L.findIdx? (whoIs who) with
  | none => rw [hf] at h; cases h
  | some i =>
    rw [(placeL_some hf).1]
    exact decide_eq_false (by omega)
theorem waits_at {L : List Wh} (ho : Once L) {i : Nat} {x : Wh} (hx : L[i]? = some x) : waitL L x.1 = !freeL L i := by
  unfold waitL
  rw [find_at ho hx]
end Go.Proofs.YtlhjkacdhfchiaaDoor.Ne
