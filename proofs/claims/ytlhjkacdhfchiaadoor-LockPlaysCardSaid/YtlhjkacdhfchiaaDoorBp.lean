/- append on slices of bytes, told by their cells: whatever the capacity is, wherever the row lies. -/
import Derived.Test.YtlhjkacdhfchiaaDoorBa
import Derived.ArgAppend
import Derived.Laws.AppendOwn
namespace Go.Proofs.YtlhjkacdhfchiaaDoor.Bp
set_option linter.unusedVariables false
set_option linter.unusedSimpArgs false
set_option maxRecDepth 100000
open Go.RowKit
open Go.Proofs.YtlhjkacdhfchiaaDoor.Wu Go.Proofs.YtlhjkacdhfchiaaDoor.Sm Go.Proofs.YtlhjkacdhfchiaaDoor.Sh Go.Proofs.YtlhjkacdhfchiaaDoor.Ba

/-- A row of n bytes L with room for cap, from the beginning of block g on. -/
structure Dst (w : World) (g n cap : Nat) (L : List Nat) : Prop where
  len : L.length = n
  all : All8 L
  fit : n ≤ cap
  max : cap ≤ maxLen
  lt : g < w.heap.size
  cells : w.rangeAt g 0 (b8 L)
  spare : w.there g n (cap - n)
  free : ∀ o, w.frozen? ⟨g, o, none⟩ = false
theorem Dst.below {w w' : World} {g n cap N : Nat} {L : List Nat} (h : Dst w g n cap L) (hb : Below N w w') (hg : g < N) : Dst w' g n cap L :=
  ⟨h.len, h.all, h.fit, h.max, Nat.lt_of_lt_of_le h.lt hb.size, fun j v hv => by rw [hb.cell (p := ⟨g, 0 + j, none⟩) hg]; exact h.cells j v hv,
    fun j hj => ⟨by rw [hb.cell (p := ⟨g, n + j, none⟩) hg]; exact (h.spare j hj).1, by rw [hb.frozen (p := ⟨g, n + j, none⟩) hg]; exact (h.spare j hj).2⟩,
    fun o => by rw [hb.frozen (p := ⟨g, o, none⟩) hg]; exact h.free o⟩
theorem Dst.kept {w w' : World} {g n cap k : Nat} {L : List Nat} (h : Dst w g n cap L) (hb : w.grownBy w' (some k)) (hg : g ≠ k) : Dst w' g n cap L := by
  have e := hb.block g h.lt (fun e => hg (by injection e))
  refine ⟨h.len, h.all, h.fit, h.max, Nat.lt_of_lt_of_le h.lt hb.size, fun j v hv => by rw [World.cell?_of_block (a := ⟨g, 0 + j, none⟩) e]; exact h.cells j v hv, fun j hj => ?_, fun o => by rw [World.frozen?_of_block (a := ⟨g, o, none⟩) e]; exact h.free o⟩
  refine ⟨by rw [World.cell?_of_block (a := ⟨g, n + j, none⟩) e]; exact (h.spare j hj).1, ?_⟩
  have := (h.spare j hj).2
  unfold World.frozen? at this ⊢
  simp only at this ⊢
  rw [e]; exact this
theorem Dst.drew {w : World} {g n cap : Nat} {L : List Nat} (h : Dst w g n cap L) : Dst w.drew g n cap L := ⟨h.len, h.all, h.fit, h.max, h.lt, h.cells, h.spare, h.free⟩
theorem Dst.src {w : World} {g n cap : Nat} {L : List Nat} (h : Dst w g n cap L) : SrcB w (some ⟨g, 0, none⟩) n L :=
  ⟨h.len, h.all, g, 0, fun _ => rfl, fun i hi => h.cells i _ (by
    unfold b8
    rw [List.getElem?_map, List.getElem?_eq_getElem (by rw [h.len]; exact hi)]
    simp [List.getD, List.getElem?_eq_getElem (show i < L.length by rw [h.len]; exact hi)])⟩
theorem Dst.cell {w : World} {g n cap : Nat} {L : List Nat} (h : Dst w g n cap L) {i : Nat} (hi : i < n) : w.cell? ⟨g, i, none⟩ = some (.int .u8 ((L.getD i 0 : Nat) : Int)) := by
  obtain ⟨_, _, b, off, h3, h4⟩ := h.src
  have := h.cells i (.int .u8 ((L.getD i 0 : Nat) : Int)) (by
    unfold b8
    rw [List.getElem?_map, List.getElem?_eq_getElem (by rw [h.len]; exact hi)]
    simp [List.getD, List.getElem?_eq_getElem (show i < L.length by rw [h.len]; exact hi)])
  rwa [Nat.zero_add] at this
theorem info_bs : (Tryd.prog.info? 5).map (fun i => (i.zero, i.size, i.bytes)) = some (some (.int .u8 0), 1, 1) := by kernel_rfl
/-- A new block whose first cells are these bytes. -/
theorem dst_new (w : World) (L : List Nat) (zs : Array Value) (T : TypeId) (f : Nat × Nat) (hf : f = (0, 0)) (h8 : All8 L) (hm : L.length + zs.size ≤ maxLen) : Dst (w.alloc (.cells ((b8 L).toArray ++ zs) T f)) w.heap.size L.length (L.length + zs.size) L := by
  have hh := heap_last w (.cells ((b8 L).toArray ++ zs) T f)
  have fz : ∀ o, (w.alloc (.cells ((b8 L).toArray ++ zs) T f)).frozen? ⟨w.heap.size, o, none⟩ = false := by
    intro o
    unfold World.frozen?
    simp only [hh]
    cases hf
    simp
  refine ⟨rfl, h8, by omega, hm, by simp, fun j v hv => ?_, fun j hj => ?_, ?_⟩
  · rw [Nat.zero_add]
    refine blk_cell hh ?_
    have hj : j < (b8 L).length := (List.getElem?_eq_some_iff.1 hv).1
    rw [Array.getElem?_append_left (by simpa using hj)]
    simpa using hv
  · refine ⟨?_, ?_⟩
    · rw [blk_cell hh (x := ((b8 L).toArray ++ zs)[L.length + j]'(by simp [b8_length]; omega)) (by rw [Array.getElem?_eq_getElem])]; rfl
    · exact fz _
  · exact fz
theorem append_none (w : World) (ty : TypeId) (g n cap c : Nat) (hf : n ≤ cap) : (Builtin.append_ #[22, 22] ty #[.slice (some ⟨g, 0, none⟩) n cap, .slice none 0 c]).run Tryd.prog w = .ok (.slice (some ⟨g, 0, none⟩) n cap) w := by
  obtain ⟨i0, hi0, hz0, hz1, hz2⟩ := info_parts info_bs
  simp [Builtin.append_, run_underlying Tryd.underlying22, sizeOf, typeInfo, hi0, Builtin.lenOf, Builtin.firstCells, hf, storeCells]
set_option maxRecDepth 100000 in
theorem append_dst (w : World) (ty : TypeId) (g n cap : Nat) (L : List Nat) (A : Option Addr) (m c : Nat) (L' : List Nat) (hd : Dst w g n cap L) (hs : SrcB w A m L') (hbig : n + m ≤ 70368744177664) (hc : A = none → m = 0) :
    ∃ g' cap' w', (Builtin.append_ #[22, 22] ty #[.slice (some ⟨g, 0, none⟩) n cap, .slice A m c]).run Tryd.prog w = .ok (.slice (some ⟨g', 0, none⟩) (n + m) cap') w' ∧
      Dst w' g' (n + m) cap' (L ++ L') ∧ w.grownBy w' (some g) ∧ (g' = g ∨ g' = w.heap.size) ∧ w'.rangeAt g 0 (b8 L) := by
  obtain ⟨i0, hi0, hz0, hz1, hz2⟩ := info_parts info_bs
  obtain ⟨hl, h8, b, off, ha, hcell⟩ := hs
  cases A with
  | none =>
    obtain rfl := hc rfl
    obtain rfl : L' = [] := List.length_eq_zero_iff.1 hl
    exact ⟨g, cap, w, append_none w ty g n cap c hd.fit, by simpa using hd, World.grownBy.refl w _, .inl rfl, hd.cells⟩
  | some ad =>
    have hnews : ∀ j u, (b8 L')[j]? = some u → w.cell? (ad.add j) = some u := by
      intro j u hu
      obtain ⟨hj, rfl⟩ := b8_at hu
      have := ha (by omega)
      injection this with this
      subst this
      rw [Addr.add_mid]
      exact hcell j (by omega)
    by_cases hroom : n + m ≤ cap
    · have hr := run_append_room_cells (P := Tryd.prog) w 22 ty 5 i0 Tryd.underlying22 hi0 g 0 n cap ad m c (b8 L') (by rw [b8_length, hl, hz1, Nat.mul_one]) hnews (b8_one L') hroom
        (fun j hj => by rw [hz1, Nat.mul_one, Nat.zero_add]; exact (hd.spare j (by rw [b8_length] at hj; omega)).1) (fun j hj => by rw [hz1, Nat.mul_one, Nat.zero_add]; exact (hd.spare j (by rw [b8_length] at hj; omega)).2)
      rw [hz1, Nat.mul_one, Nat.zero_add] at hr
      have hth : w.there g n (b8 L').length := fun j hj => hd.spare j (by rw [b8_length] at hj; omega)
      refine ⟨g, cap, _, hr, ⟨by rw [List.length_append, hd.len, hl], all8_append hd.all h8, hroom, hd.max, ?_, ?_, ?_, fun o => by rw [World.frozen?_setCells]; exact hd.free o⟩, ?_, .inl rfl, World.rangeAt_setCells_apart hd.cells g n (b8 L') (by right; left; rw [b8_length, hd.len]; omega)⟩
      · have : ∀ (vs : List Value) (o : Nat) (w : World), (w.setCells g o vs).heap.size = w.heap.size := by
          intro vs
          induction vs with
          | nil => intro o w; rfl
          | cons v vs ih => intro o w; rw [World.setCells, ih]; simp [World.setCell]
        rw [this]; exact hd.lt
      · intro j v hv
        have e : b8 (L ++ L') = b8 L ++ b8 L' := by unfold b8; rw [List.map_append]
        rw [e] at hv
        by_cases hj : j < (b8 L).length
        · rw [List.getElem?_append_left hj] at hv
          have h1 := World.rangeAt_setCells_apart hd.cells g n (b8 L') (by right; left; rw [b8_length, hd.len]; omega)
          exact h1 j v hv
        · rw [List.getElem?_append_right (by omega)] at hv
          have h1 := World.rangeAt_setCells_same w g n (b8 L') hth (j - (b8 L).length) v hv
          rw [b8_length, hd.len] at h1
          rw [b8_length, hd.len] at hj
          rw [Nat.zero_add, show j = n + (j - n) by omega]
          exact h1
      · intro j hj
        have h1 := World.there_setCells (b' := g) (o' := n) (n := cap - n) hd.spare g n (b8 L') (m + j) (by omega)
        rw [show n + m + j = n + (m + j) by omega]
        exact h1
      · have : ∀ (vs : List Value) (o : Nat) (u : World), u.grownBy (u.setCells g o vs) (some g) := by
          intro vs
          induction vs with
          | nil => intro o u; exact World.grownBy.refl u _
          | cons v vs ih => intro o u; rw [World.setCells]; exact grown_trans (grown_setCell (World.grownBy.refl u (some g)) o v) (ih (o + 1) _)
        exact this _ _ _
    · have hr := run_append_grow (P := Tryd.prog) w 22 ty 5 i0 (.int .u8 0) Tryd.underlying22 hi0 hz0 ⟨g, 0, none⟩ n cap (b8 L) (by rw [b8_length, hd.len, hz1, Nat.mul_one]) (fun j v hv => by rw [Addr.add_mid]; exact hd.cells j v hv) ad m c (b8 L') (by rw [b8_length, hl, hz1, Nat.mul_one]) hnews (by omega) (by omega) (growslice_fits (by omega) (by rw [hz2]; omega))
      have hge := grownCap_ge w (n + m) cap 5
      have hle := grownCap_le_maxLen w (n + m) cap 5 (by unfold maxLen; omega)
      generalize grownCap w (n + m) cap 5 = q at hr hge hle
      have hzs : (Builtin.zeroCells (Value.int .u8 0).cells (q - (n + m))).size = q - (n + m) := by rw [size_zeroCells]; simp [Value.cells]
      generalize Builtin.zeroCells (Value.int .u8 0).cells (q - (n + m)) = Z at hr hzs
      have e : (b8 L).toArray ++ (b8 L').toArray = (b8 (L ++ L')).toArray := by unfold b8; rw [List.map_append]; simp
      rw [e] at hr
      have hn := dst_new w.drew (L ++ L') Z 5 (0, 0) rfl (all8_append hd.all h8) (by rw [List.length_append, hd.len, hl, hzs]; omega)
      rw [List.length_append, hd.len, hl, hzs, show n + m + (q - (n + m)) = q by omega] at hn
      exact ⟨w.heap.size, q, _, hr, hn, ⟨rfl, rfl, rfl, by simp, fun k hk _ => Below.heap_alloc w.drew _ k hk⟩, .inr rfl, fun j v hv => by rw [World.cell?_of_block (a := ⟨g, 0 + j, none⟩) (Below.heap_alloc w.drew _ g hd.lt)]; exact hd.cells j v hv⟩
/-- append as a step of the walk. -/
theorem wpList_append_dst {w : World} {ops : Array Oper} {rest : List Oper} {o : Oper} {a : Act} {Q : Exit → Act → World → Prop} (hgd : o.guard = none) (s x : Operand)
    (ho : o.op = .call { callee := .builtin .append, args := #[s, x], argTypes := #[22, 22] }) (g n cap : Nat) (L : List Nat) (A : Option Addr) (m c : Nat) (L' : List Nat)
    (hs : a.eval s = .slice (some ⟨g, 0, none⟩) n cap) (hx : a.eval x = .slice A m c) (hd : Dst w g n cap L) (hsrc : SrcB w A m L') (hbig : n + m ≤ 70368744177664) (hc : A = none → m = 0)
    (h : ∀ g' cap' w', Hid (Dst w' g' (n + m) cap' (L ++ L')) → Hid (w.grownBy w' (some g)) → (g' = g ∨ g' = w.heap.size) → Hid (w'.rangeAt g 0 (b8 L)) → Hid (wpList Tryd.prog ops Q rest (a.put o.dst (.slice (some ⟨g', 0, none⟩) (n + m) cap')) w')) : wpList Tryd.prog ops Q (o :: rest) a w := by
  obtain ⟨g', cap', w', hrun, h1, h2, h3, h4⟩ := append_dst w o.type g n cap L A m c L' hd hsrc hbig hc
  refine wpList_plain hgd fun K hK => ?_
  unfold Oper.wp
  simp [execOp, ho, resolve, invoke, builtin, hs, hx, hrun, Result.andThen]
  exact hK _ _ (h g' cap' w' h1 h2 h3 h4)
end Go.Proofs.YtlhjkacdhfchiaaDoor.Bp
