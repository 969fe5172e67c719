/- slices.Insert on bytes: what the row comes to. -/
import Derived.Test.YtkinpbhbgeiflaaDoorIg
namespace Go.Proofs.YtkinpbhbgeiflaaDoor.Ih
set_option linter.unusedVariables false
set_option linter.unusedSimpArgs false
set_option maxRecDepth 100000
open Go.ChangeShapes Go.WideShapes Go.ChangeAt Go.RowKit
open Go.Proofs.YtkinpbhbgeiflaaDoor.Wu Go.Proofs.YtkinpbhbgeiflaaDoor.Sm Go.Proofs.YtkinpbhbgeiflaaDoor.Sh Go.Proofs.YtkinpbhbgeiflaaDoor.Ba Go.Proofs.YtkinpbhbgeiflaaDoor.Bp Go.Proofs.YtkinpbhbgeiflaaDoor.Bz Go.Proofs.YtkinpbhbgeiflaaDoor.Is Go.Proofs.YtkinpbhbgeiflaaDoor.Ig
theorem setCells_size (g : Nat) : ∀ (vs : List Value) (o : Nat) (w : World), (w.setCells g o vs).heap.size = w.heap.size
  | [], o, w => rfl
  | v :: vs, o, w => by rw [World.setCells, setCells_size g vs]; simp [World.setCell]
/-- Cells written behind a row leave it. -/
theorem dst_apart {w : World} {g i cap o : Nat} {A : List Nat} (h : Dst w g i cap A) (ho : i ≤ o) (X : List Nat) : Dst (w.setCells g o (b8 X)) g i cap A := by
  refine ⟨h.len, h.all, h.fit, h.max, by rw [setCells_size]; exact h.lt, ?_, ?_, fun o' => by rw [World.frozen?_setCells]; exact h.free o'⟩
  · exact World.rangeAt_setCells_apart h.cells g o (b8 X) (by right; left; rw [b8_length, h.len]; omega)
  · exact World.there_setCells h.spare g o (b8 X)
/-- A row and the cells behind it. -/
theorem dst_join {u : World} {g n cap : Nat} {L S : List Nat} (h : Dst u g n cap L) (hr : u.rangeAt g n (b8 S)) (h8 : All8 S) (hfit : n + S.length ≤ cap) : Dst u g (n + S.length) cap (L ++ S) := by
  refine ⟨by rw [List.length_append, h.len], all8_append h.all h8, hfit, h.max, h.lt, ?_, ?_, h.free⟩
  · intro j v hv
    have e : b8 (L ++ S) = b8 L ++ b8 S := by unfold b8; rw [List.map_append]
    rw [e] at hv
    by_cases hj : j < (b8 L).length
    · rw [List.getElem?_append_left hj] at hv
      exact h.cells j v hv
    · rw [List.getElem?_append_right (by omega)] at hv
      have h1 := hr (j - (b8 L).length) v hv
      rw [b8_length, h.len] at h1
      rw [b8_length, h.len] at hj
      rw [Nat.zero_add, show j = n + (j - n) by omega]
      exact h1
  · intro j hj
    have := h.spare (S.length + j) (by omega)
    rwa [show n + S.length + j = n + (S.length + j) by omega]
/-- What stands in A, then V, then S; in place. -/
theorem shift_dst {w : World} {g n cap i m : Nat} {A S V : List Nat} (hd : Dst w g n cap (A ++ S)) (hi : A.length = i) (hV : All8 V) (hm : V.length = m) (hroom : n + m ≤ cap) :
    Dst ((w.drew.setCells g (i + m) (b8 S)).setCells g i (b8 V)) g (n + m) cap (A ++ V ++ S) := by
  have hl := hd.len
  rw [List.length_append] at hl
  have h0 : Dst w.drew g i cap A := (Dst.take hd hi).drew
  have h1 := dst_apart h0 (o := i + m) (by omega) S
  have h2 := (dst_set h1 V hV (by omega)).1
  rw [hm] at h2
  have hth : w.drew.there g (i + m) (b8 S).length := fun j hj => by
    rw [b8_length] at hj
    have := h0.spare (m + j) (by omega)
    rwa [show i + m + j = i + (m + j) by omega]
  have h3 := World.rangeAt_setCells_same w.drew g (i + m) (b8 S) hth
  have h4 := World.rangeAt_setCells_apart h3 g i (b8 V) (by right; right; rw [b8_length]; omega)
  have h5 := dst_join h2 h4 (fun x hx => hd.all x (List.mem_append_right _ hx)) (by omega)
  rwa [show i + m + S.length = n + m by omega] at h5
/-- The same, in a new row. -/
theorem grow_dst {w : World} {g n cap i m d1 d2 : Nat} {A S V Z : List Nat} (hd : Dst w g (n + m) cap (A ++ Z)) (hi : A.length = i) (hS : All8 S) (hV : All8 V) (hm : V.length = m) (hn : i + S.length = n) :
    Dst ((((w.drewN d1).setCells g i (b8 V)).drewN d2).setCells g (i + m) (b8 S)) g (n + m) cap (A ++ V ++ S) := by
  have hf := hd.fit
  have h0 := Dst.take hd hi
  have h0' : Dst (w.drewN d1) g i cap A := ⟨h0.len, h0.all, h0.fit, h0.max, h0.lt, h0.cells, h0.spare, h0.free⟩
  have h1 := (dst_set h0' V hV (by omega)).1
  rw [hm] at h1
  have h2 : Dst (((w.drewN d1).setCells g i (b8 V)).drewN d2) g (i + m) cap (A ++ V) := ⟨h1.len, h1.all, h1.fit, h1.max, h1.lt, h1.cells, h1.spare, h1.free⟩
  have h3 := (dst_set h2 S hS (by omega)).1
  rwa [show i + m + S.length = n + m by omega] at h3
end Go.Proofs.YtkinpbhbgeiflaaDoor.Ih
