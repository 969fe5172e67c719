/- Opening arguments of layer 14: a nonce, two of them, what somebody answers, two texts, a module. -/
import Derived.Test.YtkinpbhbgeiflaaDoorQa
import Derived.Test.YtkinpbhbgeiflaaDoorAd
import Derived.Deep.Slices
import Derived.Deep.Strs
namespace Go.Proofs.YtkinpbhbgeiflaaDoor.Ug
set_option linter.unusedVariables false
set_option linter.unusedSimpArgs false
set_option maxRecDepth 100000
open Go.RowKit Go.WideShapes Go.ChangeShapes Go.Deep
open Go.Proofs.YtkinpbhbgeiflaaDoor.Wu Go.Proofs.YtkinpbhbgeiflaaDoor.Sm Go.Proofs.YtkinpbhbgeiflaaDoor.Sh Go.Proofs.YtkinpbhbgeiflaaDoor.Ba Go.Proofs.YtkinpbhbgeiflaaDoor.Bo Go.Proofs.YtkinpbhbgeiflaaDoor.Ad
theorem ex_list {α : Type} {n : Nat} {p : Nat → α → Prop} (h : ∀ i, i < n → ∃ x, p i x) : ∃ l : List α, l.length = n ∧ ∀ i (hi : i < l.length), p i l[i] := by
  induction n with
  | zero => exact ⟨[], rfl, fun i hi => absurd hi (by simp)⟩
  | succ n ih =>
    obtain ⟨l, hl, hp⟩ := ih (fun i hi => h i (by omega))
    obtain ⟨x, hx⟩ := h n (by omega)
    refine ⟨l ++ [x], by simp [hl], fun i hi => ?_⟩
    by_cases hin : i < l.length
    · rw [List.getElem_append_left hin]; exact hp i hin
    · have : i = l.length := by simp at hi; omega
      subst this
      rw [List.getElem_append_right (Nat.le_refl _)]
      simp only [Nat.sub_self, List.getElem_cons_zero]
      rw [hl]; exact hx
theorem arr_cells {H : Type} {enc : TypeId × Value → H} {P : Program} {w : World} {base n fuel : Nat} {spare : Nat → Bool} {held : Bool} {t e : TypeId} {cs : List Value} {x : DataW H × List MemPlace}
    (ht : P.underlying t = some (.array n e)) (he : P.underlying e = some (.int .u8)) (hce : P.cellsOf e = 1) (hct : P.cellsOf t = n) (hf : DataW.trod enc P w base spare held fuel t cs = some x) :
    ∃ X : List Nat, cs = b8 X ∧ X.length = n ∧ All8 X := by
  obtain ⟨xs, m, _, ex, hl, hxl, hel⟩ := DataW.trod_array ht hf
  rw [hct] at hl
  have key : ∀ i, i < n → ∃ z : Nat, z < 256 ∧ cs[i]? = some (.int .u8 (z : Int)) := by
    intro i hi
    have h1 := hel i hi
    obtain ⟨y, hy⟩ : ∃ y, xs[i]? = some y := ⟨xs[i]'(by omega), List.getElem?_eq_getElem (by omega)⟩
    rw [hce, Nat.mul_one, hy] at h1
    obtain ⟨z, hc, _, hw⟩ := DataW.trod_int he h1
    have hb := u8_bd hw
    refine ⟨z.toNat, by omega, ?_⟩
    have h2 := congrArg (·[0]?) hc
    simp only [List.getElem?_take, List.getElem?_drop, Nat.add_zero, List.getElem?_cons_zero] at h2
    rw [show ((z.toNat : Nat) : Int) = z by omega]
    simpa using h2
  obtain ⟨X, hX, hp⟩ := ex_list key
  refine ⟨X, ?_, hX, fun x hx => ?_⟩
  · apply List.ext_getElem?
    intro i
    by_cases hi : i < n
    · rw [(hp i (by omega)).2]
      unfold b8
      rw [List.getElem?_map, List.getElem?_eq_getElem (by omega)]
      rfl
    · rw [List.getElem?_eq_none (by omega), List.getElem?_eq_none (by rw [b8_length]; omega)]
  · obtain ⟨i, hi, rfl⟩ := List.mem_iff_getElem.1 hx
    exact (hp i hi).1
theorem agg_u8s {cs : Array Value} {X : List Nat} (h : cs.toList = b8 X) : cs = u8s X := Array.toList_inj.1 (by rw [h]; rfl)
theorem open_arr {H : Type} {enc : TypeId × Value → H} {P : Program} {w : World} {r : Reach} {b0 base n : Nat} {spare : Nat → Bool} {held : Bool} {t e : TypeId} {v : Value} {d : DataW H} {p : List MemPlace}
    (ht : P.underlying t = some (.array n e)) (he : P.underlying e = some (.int .u8)) (hce : P.cellsOf e = 1) (hct : P.cellsOf t = n) (hv : Value.okWide P w r b0 t v) (h : DataW.Trod enc P w base spare held t v d p) :
    ∃ X : List Nat, v = .agg (u8s X) ∧ X.length = n ∧ All8 X := by
  obtain ⟨cs, rfl, hsz⟩ := Bj.okWide_array ht hv
  obtain ⟨fuel, hf⟩ := h
  obtain ⟨X, e, h1, h2⟩ := arr_cells ht he hce hct hf
  exact ⟨X, congrArg Value.agg (agg_u8s (by simpa [Value.cells] using e)), h1, h2⟩
theorem b8_append (X Y : List Nat) : b8 (X ++ Y) = b8 X ++ b8 Y := by unfold b8; rw [List.map_append]
theorem split_two {cs a b : List Value} {n m : Nat} (hl : cs.length = n + m) (h1 : cs.take n = a) (h2 : (cs.drop n).take m = b) : cs = a ++ b := by
  have e : (cs.drop n).take m = cs.drop n := List.take_of_length_le (by rw [List.length_drop]; omega)
  rw [e] at h2
  rw [← h1, ← h2, List.take_append_drop]
/-- Two arrays of bytes in one. -/
theorem open_arrs {H : Type} {enc : TypeId × Value → H} {P : Program} {w : World} {r : Reach} {b0 base n : Nat} {spare : Nat → Bool} {held : Bool} {t u e : TypeId} {v : Value} {d : DataW H} {p : List MemPlace}
    (ht : P.underlying t = some (.array 2 u)) (hu : P.underlying u = some (.array n e)) (he : P.underlying e = some (.int .u8)) (hce : P.cellsOf e = 1) (hcu : P.cellsOf u = n) (hct : P.cellsOf t = n + n) (hv : Value.okWide P w r b0 t v) (h : DataW.Trod enc P w base spare held t v d p) :
    ∃ X Y : List Nat, v = .agg (u8s (X ++ Y)) ∧ (X.length = n ∧ All8 X) ∧ (Y.length = n ∧ All8 Y) := by
  obtain ⟨cs, rfl, hsz⟩ := Bj.okWide_array ht hv
  obtain ⟨fuel, hf⟩ := h
  obtain ⟨xs, m, _, ex, hl, hxl, hel⟩ := DataW.trod_array ht hf
  rw [hct] at hl
  have h0 := hel 0 (by omega)
  have h1 := hel 1 (by omega)
  obtain ⟨y0, hy0⟩ : ∃ y, xs[0]? = some y := ⟨xs[0]'(by omega), List.getElem?_eq_getElem (by omega)⟩
  obtain ⟨y1, hy1⟩ : ∃ y, xs[1]? = some y := ⟨xs[1]'(by omega), List.getElem?_eq_getElem (by omega)⟩
  rw [hcu, hy0] at h0
  rw [hcu, hy1] at h1
  obtain ⟨X, e0, x1, x2⟩ := arr_cells hu he hce hcu h0
  obtain ⟨Y, e1, y1, y2⟩ := arr_cells hu he hce hcu h1
  rw [Nat.zero_mul, List.drop_zero] at e0
  rw [Nat.one_mul] at e1
  refine ⟨X, Y, ?_, ⟨x1, x2⟩, ⟨y1, y2⟩⟩
  have := split_two hl e0 e1
  rw [← b8_append] at this
  exact congrArg Value.agg (agg_u8s (by simpa [Value.cells] using this))
theorem open_strs2 {H : Type} {enc : TypeId × Value → H} {P : Program} {w : World} {r : Reach} {b0 base : Nat} {spare : Nat → Bool} {held : Bool} {t e : TypeId} {v : Value} {d : DataW H} {p : List MemPlace}
    (ht : P.underlying t = some (.array 2 e)) (he : P.underlying e = some .string) (hce : P.cellsOf e = 1) (hct : P.cellsOf t = 2) (hv : Value.okWide P w r b0 t v) (h : DataW.Trod enc P w base spare held t v d p) :
    ∃ x y : ByteArray, v = .agg #[.string x, .string y] ∧ x.size ≤ maxLen ∧ y.size ≤ maxLen := by
  obtain ⟨cs, rfl, hsz⟩ := Bj.okWide_array ht hv
  obtain ⟨fuel, hf⟩ := h
  obtain ⟨xs, m, _, ex, hl, hxl, hel⟩ := DataW.trod_array ht hf
  rw [hct] at hl
  have h0 := hel 0 (by omega)
  have h1 := hel 1 (by omega)
  obtain ⟨y0, hy0⟩ : ∃ y, xs[0]? = some y := ⟨xs[0]'(by omega), List.getElem?_eq_getElem (by omega)⟩
  obtain ⟨y1, hy1⟩ : ∃ y, xs[1]? = some y := ⟨xs[1]'(by omega), List.getElem?_eq_getElem (by omega)⟩
  rw [hce, hy0] at h0
  rw [hce, hy1] at h1
  obtain ⟨x, e0, _, hx⟩ := DataW.trod_string he h0
  obtain ⟨y, e1, _, hy⟩ := DataW.trod_string he h1
  rw [Nat.zero_mul, List.drop_zero] at e0
  rw [Nat.one_mul] at e1
  refine ⟨x, y, ?_, hx, hy⟩
  have := split_two hl e0 e1
  congr 1
  apply Array.toList_inj.1
  simpa [Value.cells] using this
theorem trod_struct6 {H : Type} {enc : TypeId × Value → H} {P : Program} {w : World} {base : Nat} {spare : Nat → Bool} {held : Bool} {t : TypeId} {f0 f1 f2 f3 f4 f5 : Field} {fuel : Nat} {cs : List Value} {x : DataW H × List MemPlace} (ht : P.underlying t = some (.struct #[f0, f1, f2, f3, f4, f5])) (h : DataW.trod enc P w base spare held fuel t cs = some x) :
    ∃ y0 y1 y2 y3 y4 y5 n, cs.length = P.cellsOf t ∧ DataW.trod enc P w base spare held n f0.type ((cs.drop f0.offset).take (P.cellsOf f0.type)) = some y0 ∧
      DataW.trod enc P w base spare held n f1.type ((cs.drop f1.offset).take (P.cellsOf f1.type)) = some y1 ∧ DataW.trod enc P w base spare held n f2.type ((cs.drop f2.offset).take (P.cellsOf f2.type)) = some y2 ∧
      DataW.trod enc P w base spare held n f3.type ((cs.drop f3.offset).take (P.cellsOf f3.type)) = some y3 ∧ DataW.trod enc P w base spare held n f4.type ((cs.drop f4.offset).take (P.cellsOf f4.type)) = some y4 ∧
      DataW.trod enc P w base spare held n f5.type ((cs.drop f5.offset).take (P.cellsOf f5.type)) = some y5 := by
  obtain ⟨xs, n, _, rfl, hl, hlen, hf⟩ := DataW.trod_struct ht h
  match xs, hlen with
  | [y0, y1, y2, y3, y4, y5], _ => exact ⟨y0, y1, y2, y3, y4, y5, n, hl, by simpa using hf 0 f0 rfl, by simpa using hf 1 f1 rfl, by simpa using hf 2 f2 rfl, by simpa using hf 3 f3 rfl, by simpa using hf 4 f4 rfl, by simpa using hf 5 f5 rfl⟩
end Go.Proofs.YtkinpbhbgeiflaaDoor.Ug
