/- append of noughts made on the spot, on slices of bytes told by their cells. -/
import Derived.Test.YtkinpbhbgeiflaaDoorQd
import Derived.Lib.AppendZerosOnto
import Derived.Lib.AppendZeros
namespace Go.Proofs.YtkinpbhbgeiflaaDoor.Bz
set_option linter.unusedVariables false
set_option linter.unusedSimpArgs false
set_option maxRecDepth 100000
open Go.RowKit
open Go.Proofs.YtkinpbhbgeiflaaDoor.Wu Go.Proofs.YtkinpbhbgeiflaaDoor.Sm Go.Proofs.YtkinpbhbgeiflaaDoor.Sh Go.Proofs.YtkinpbhbgeiflaaDoor.Ba Go.Proofs.YtkinpbhbgeiflaaDoor.Bp
theorem dst_set {w : World} {g n cap : Nat} {L : List Nat} (hd : Dst w g n cap L) (L' : List Nat) (h8 : All8 L') (hroom : n + L'.length ≤ cap) :
    Dst (w.setCells g n (b8 L')) g (n + L'.length) cap (L ++ L') ∧ w.grownBy (w.setCells g n (b8 L')) (some g) := by
  have hth : w.there g n (b8 L').length := fun j hj => hd.spare j (by rw [b8_length] at hj; omega)
  refine ⟨⟨by rw [List.length_append, hd.len], all8_append hd.all h8, hroom, hd.max, ?_, ?_, ?_, fun o => by rw [World.frozen?_setCells]; exact hd.free o⟩, ?_⟩
  · have : ∀ (vs : List Value) (o : Nat) (w : World), (w.setCells g o vs).heap.size = w.heap.size := by
      intro vs
      induction vs with
      | nil => intro o w; rfl
      | cons v vs ih => intro o w; rw [World.setCells, ih]; simp [World.setCell]
    rw [this]; exact hd.lt
  · intro j v hv
    have e : b8 (L ++ L') = b8 L ++ b8 L' := by unfold b8; rw [List.map_append]
    rw [e] at hv
    by_cases hj : j < (b8 L).length
    · rw [List.getElem?_append_left hj] at hv
      have h1 := World.rangeAt_setCells_apart hd.cells g n (b8 L') (by right; left; rw [b8_length, hd.len]; omega)
      exact h1 j v hv
    · rw [List.getElem?_append_right (by omega)] at hv
      have h1 := World.rangeAt_setCells_same w g n (b8 L') hth (j - (b8 L).length) v hv
      rw [b8_length, hd.len] at h1
      rw [b8_length, hd.len] at hj
      rw [Nat.zero_add, show j = n + (j - n) by omega]
      exact h1
  · intro j hj
    have h1 := World.there_setCells (b' := g) (o' := n) (n := cap - n) hd.spare g n (b8 L') (L'.length + j) (by omega)
    rw [show n + L'.length + j = n + (L'.length + j) by omega]
    exact h1
  · have : ∀ (vs : List Value) (o : Nat) (u : World), u.grownBy (u.setCells g o vs) (some g) := by
      intro vs
      induction vs with
      | nil => intro o u; exact World.grownBy.refl u _
      | cons v vs ih => intro o u; rw [World.setCells]; exact grown_trans (grown_setCell (World.grownBy.refl u (some g)) o v) (ih (o + 1) _)
    exact this _ _ _
theorem zeros_b8 (m : Nat) : Builtin.zeroCells (Value.int .u8 0).cells m = (b8 (List.replicate m 0)).toArray := by
  unfold Builtin.zeroCells b8
  apply Array.ext
  · simp [Value.cells]
  · intro i h1 h2
    simp [Value.cells, Nat.mod_one]
theorem all8_zeros (m : Nat) : All8 (List.replicate m 0) := by
  intro x hx
  rw [List.eq_of_mem_replicate hx]; omega
set_option maxRecDepth 100000 in
theorem append_zeros (w : World) (ty : TypeId) (g n cap : Nat) (L : List Nat) (m : Nat) (hd : Dst w g n cap L) (hbig : n + m ≤ 70368744177664) :
    ∃ g' cap' w', (Builtin.append_ #[22, 3] ty #[.slice (some ⟨g, 0, none⟩) n cap, .int .i64 (m : Int)]).run Tryd.prog w = .ok (.slice (some ⟨g', 0, none⟩) (n + m) cap') w' ∧
      Dst w' g' (n + m) cap' (L ++ List.replicate m 0) ∧ w.grownBy w' (some g) ∧ (g' = g ∧ n + m ≤ cap ∨ g' = w.heap.size ∧ Below w.heap.size w w') := by
  obtain ⟨i0, hi0, hz0, hz1, hz2⟩ := info_parts info_bs
  have hw : IntKind.i64.wrap (m : Int) = m := by rw [IntKind.wrap_i64]; omega
  by_cases hroom : n + m ≤ cap
  · obtain ⟨h1, h2⟩ := dst_set hd (List.replicate m 0) (all8_zeros m) (by simpa using hroom)
    rw [List.length_replicate] at h1
    refine ⟨g, cap, _, ?_, h1, h2, .inl ⟨rfl, hroom⟩⟩
    have hst := run_storeCells_cells (P := Tryd.prog) g n (b8 (List.replicate m 0)) 0 w (fun j hj => (hd.spare j (by rw [b8_length, List.length_replicate] at hj; omega)).1) (fun j hj => (hd.spare j (by rw [b8_length, List.length_replicate] at hj; omega)).2) (b8_one _)
    rw [Nat.add_zero] at hst
    have hneg : ¬ ((m : Int) < 0) := by omega
    have h48 : ¬ (281474976710656 < (m : Int)) := by omega
    by_cases h0 : m = 0
    · subst h0
      have hw0 : IntKind.i64.wrap 0 = 0 := by rw [IntKind.wrap_i64]; rfl
      have hroom' : n ≤ cap := hd.fit
      simp [Builtin.append_, run_underlying Tryd.underlying22, run_underlying Tryd.underlying3, sizeOf, typeInfo, zeroValue, hi0, hz0, hz1, hz2, asInt, asIntOf, hw0, hroom', b8, storeCells, World.setCells]
    · simp [Builtin.append_, run_underlying Tryd.underlying22, run_underlying Tryd.underlying3, sizeOf, typeInfo, zeroValue, hi0, hz0, hz1, hz2, asInt, asIntOf, hw, hneg, h48, h0, hroom, zeros_b8, Addr.add_lit, hst]
  · have hold : (Builtin.firstCells i0.size n (.slice (some ⟨g, 0, none⟩) n cap)).run Tryd.prog w.drew = .ok (b8 L).toArray w.drew :=
      run_firstCells_some (P := Tryd.prog) w.drew i0.size n ⟨g, 0, none⟩ n cap (b8 L) (by rw [b8_length, hd.len, hz1, Nat.mul_one]) (fun j v hv => by rw [Addr.add_mid]; exact hd.cells j v hv)
    have hf := hd.fit
    have hr := Lib.run_append_grow_zeros w 22 3 ty 5 i0 (.int .u8 0) .i64 .i64 Tryd.underlying22 Tryd.underlying3 hi0 hz0 (some ⟨g, 0, none⟩) n cap (b8 L) hold m (by omega) (by omega) (by omega) (by omega) (by rw [hz2]; omega) (growslice_fits (by omega) (by rw [hz2]; omega))
    have hge := grownCap_ge w (n + m) cap 5
    have hle := grownCap_le_maxLen w (n + m) cap 5 (by unfold maxLen; omega)
    generalize grownCap w (n + m) cap 5 = q at hr hge hle
    have hzs : (Builtin.zeroCells (Value.int .u8 0).cells (q - (n + m))).size = q - (n + m) := by rw [size_zeroCells]; simp [Value.cells]
    generalize Builtin.zeroCells (Value.int .u8 0).cells (q - (n + m)) = Z at hr hzs
    have e : (b8 L).toArray ++ (b8 (List.replicate m 0)).toArray = (b8 (L ++ List.replicate m 0)).toArray := by unfold b8; rw [List.map_append]; simp
    rw [zeros_b8, e] at hr
    have hn := dst_new w.drew (L ++ List.replicate m 0) Z 5 (0, 0) rfl (all8_append hd.all (all8_zeros m)) (by rw [List.length_append, hd.len, List.length_replicate, hzs]; omega)
    rw [List.length_append, hd.len, List.length_replicate, hzs, show n + m + (q - (n + m)) = q by omega] at hn
    exact ⟨w.heap.size, q, _, hr, hn, ⟨rfl, rfl, rfl, by simp, fun k hk _ => Below.heap_alloc w.drew _ k hk⟩, .inr ⟨rfl, (Below.refl _ _).drew.alloc (Nat.le_refl _) _⟩⟩
end Go.Proofs.YtkinpbhbgeiflaaDoor.Bz
