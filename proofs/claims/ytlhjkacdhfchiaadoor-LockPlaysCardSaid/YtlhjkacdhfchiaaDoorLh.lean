/- lock: New, Len, Has, Waits. -/
import Derived.Test.YtlhjkacdhfchiaaDoorLg
namespace Go.Proofs.YtlhjkacdhfchiaaDoor.Lh
set_option linter.unusedVariables false
set_option linter.unusedSimpArgs false
set_option maxRecDepth 100000
open Go.ChangeShapes Go.WideShapes Go.ChangeAt Go.RowKit
open Go.Proofs.YtlhjkacdhfchiaaDoor.Wu Go.Proofs.YtlhjkacdhfchiaaDoor.Ps Go.Proofs.YtlhjkacdhfchiaaDoor.Pu Go.Proofs.YtlhjkacdhfchiaaDoor.Px Go.Proofs.YtlhjkacdhfchiaaDoor.La Go.Proofs.YtlhjkacdhfchiaaDoor.Lb Go.Proofs.YtlhjkacdhfchiaaDoor.Lc Go.Proofs.YtlhjkacdhfchiaaDoor.Ld Go.Proofs.YtlhjkacdhfchiaaDoor.Le Go.Proofs.YtlhjkacdhfchiaaDoor.Lg
theorem new_c (w : World) : Calls Tryd.prog 20 #[] w fun e w' => e = .returned (.pointer (some ⟨w.heap.size, 0, none⟩)) ∧ LkW w' w.heap.size w.heap.size [] ∧ Below w.heap.size w w' := by
  go_enter Tryd.func20, Tryd.ntmps20
  go_wp2
  go_ret
  exact ⟨rfl, ⟨.slice none 0 0, [], ⟨heap_last _ _, OwnA.nil _ _, rfl, fun i u x h => by simp at h, Nat.le_refl _, by simp⟩⟩, below_new _ _⟩
theorem find_l {w : World} {N P : Nat} {L : List Wh} (h : LkW w N P L) (who : Int) :
    Calls Tryd.prog 43 #[.pointer (some ⟨P, 0, none⟩), .int .i64 who] w fun e w' => e = .returned (.int .i64 (placeL L who)) ∧ Below w.heap.size w w' := by
  obtain ⟨v, us, h⟩ := h
  obtain ⟨a, c, rfl, hi⟩ := h.form
  have := La.find_c P who a us.length c us _ w h.obj hi
  rw [h.place] at this
  exact this
theorem free_l {w : World} {N P : Nat} {L : List Wh} (h : LkW w N P L) {i : Nat} {x : Wh} (hx : L[i]? = some x) :
    Calls Tryd.prog 45 #[.pointer (some ⟨P, 0, none⟩), .int .i64 (i : Int)] w fun e w' => e = .returned (.bool (freeL L i)) ∧ Below w.heap.size w w' := by
  obtain ⟨v, us, h⟩ := h
  obtain ⟨a, c, rfl, hi⟩ := h.form
  have := free_c P _ a us.length c i us (L.map (·.2)) x.2 w h.obj hi h.txs (by rw [List.getElem?_map, hx]; rfl)
  rw [← freeL_at hx] at this
  exact this
theorem len_c {w : World} {N P : Nat} {L : List Wh} (h : LkW w N P L) :
    Calls Tryd.prog 29 #[.pointer (some ⟨P, 0, none⟩)] w fun e w' => e = .returned (.int .i64 (L.length : Int)) ∧ w' = w := by
  obtain ⟨v, us, h⟩ := h
  obtain ⟨a, c, rfl, hi⟩ := h.form
  have c0 := blk_cell (i := 0) h.obj rfl
  have hl := h.len
  rw [← hl]
  clear h hi hl
  go_enter Tryd.func29, Tryd.ntmps29
  go_wp2
  go_ret
  exact ⟨rfl, rfl⟩
/-- Has somebody theirs? -/
def hasL (L : List Wh) (who : Int) : Bool := match L.findIdx? (whoIs who) with
  | some i => freeL L i
  | none => false
/-- Does somebody wait? -/
def waitL (L : List Wh) (who : Int) : Bool := match L.findIdx? (whoIs who) with
  | some i => !freeL L i
  | none => false
theorem has_c {w : World} {N P : Nat} {L : List Wh} (h : LkW w N P L) (who : Int) :
    Calls Tryd.prog 27 #[.pointer (some ⟨P, 0, none⟩), .int .i64 who] w fun e w' => e = .returned (.bool (hasL L who)) ∧ Below w.heap.size w w' := by
  have HF := hide (find_l h who)
  have HL := hide h
  unfold hasL
  cases hf : L.findIdx? (whoIs who) with
  | none =>
    rw [placeL_none hf] at HF
    clear hf h
    go_enter Tryd.func27, Tryd.ntmps27
    go_wp2_with fail
    refine HF.out.mono ?_
    rintro e w1 ⟨rfl, hb⟩
    have HB := hide hb
    clear hb
    go_wp2
    go_ret
    exact ⟨rfl, HB.out⟩
  | some i =>
    obtain ⟨e1, e2⟩ := placeL_some hf
    rw [e1] at HF
    have hex : ∃ x, L[i]? = some x := ⟨L[i], List.getElem?_eq_getElem e2⟩
    obtain ⟨x, hx⟩ := hex
    have HX := hide hx
    have d0 : (0 : Int) ≤ (i : Int) := by omega
    clear hf h e1 e2 hx
    obtain ⟨b, hb0⟩ : ∃ b, b = freeL L i := ⟨_, rfl⟩
    have HB0 := hide hb0
    simp only
    rw [← hb0]
    clear hb0
    go_enter Tryd.func27, Tryd.ntmps27
    go_wp2_with fail
    refine HF.out.mono ?_
    rintro e w1 ⟨rfl, hb⟩
    have HFr := hide (free_l (HL.out.below hb) HX.out)
    rw [← HB0.out] at HFr
    have HB := hide hb
    clear hb
    go_wp2_with fail
    refine HFr.out.mono ?_
    rintro e w2 ⟨rfl, hb⟩
    have HB2 := hide (keepB hb (Nat.le_refl _) HB.out)
    clear hb
    go_wp2
    go_ret
    exact ⟨rfl, HB2.out⟩
theorem waits_c {w : World} {N P : Nat} {L : List Wh} (h : LkW w N P L) (who : Int) :
    Calls Tryd.prog 30 #[.pointer (some ⟨P, 0, none⟩), .int .i64 who] w fun e w' => e = .returned (.bool (waitL L who)) ∧ Below w.heap.size w w' := by
  have HF := hide (find_l h who)
  have HL := hide h
  unfold waitL
  cases hf : L.findIdx? (whoIs who) with
  | none =>
    rw [placeL_none hf] at HF
    clear hf h
    go_enter Tryd.func30, Tryd.ntmps30
    go_wp2_with fail
    refine HF.out.mono ?_
    rintro e w1 ⟨rfl, hb⟩
    have HB := hide hb
    clear hb
    go_wp2
    go_ret
    exact ⟨rfl, HB.out⟩
  | some i =>
    obtain ⟨e1, e2⟩ := placeL_some hf
    rw [e1] at HF
    have hex : ∃ x, L[i]? = some x := ⟨L[i], List.getElem?_eq_getElem e2⟩
    obtain ⟨x, hx⟩ := hex
    have HX := hide hx
    have d0 : (0 : Int) ≤ (i : Int) := by omega
    clear hf h e1 e2 hx
    obtain ⟨b, hb0⟩ : ∃ b, b = freeL L i := ⟨_, rfl⟩
    have HB0 := hide hb0
    simp only
    rw [← hb0]
    clear hb0
    go_enter Tryd.func30, Tryd.ntmps30
    go_wp2_with fail
    refine HF.out.mono ?_
    rintro e w1 ⟨rfl, hb⟩
    have HFr := hide (free_l (HL.out.below hb) HX.out)
    rw [← HB0.out] at HFr
    have HB := hide hb
    clear hb
    go_wp2_with fail
    refine HFr.out.mono ?_
    rintro e w2 ⟨rfl, hb⟩
    have HB2 := hide (keepB hb (Nat.le_refl _) HB.out)
    clear hb
    go_wp2
    go_ret
    exact ⟨rfl, HB2.out⟩
end Go.Proofs.YtlhjkacdhfchiaaDoor.Lh
