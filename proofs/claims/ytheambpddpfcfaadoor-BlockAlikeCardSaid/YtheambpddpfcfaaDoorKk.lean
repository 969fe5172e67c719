/- Places of blocks; a table of them by their weak sums: a map of slices of the call's own. -/
import Derived.Test.YtheambpddpfcfaaDoorKd
import Derived.Test.YtheambpddpfcfaaDoorKm
import Derived.Test.YtheambpddpfcfaaDoorRb1
import Derived.Test.YtheambpddpfcfaaDoorKg
namespace Go.Proofs.YtheambpddpfcfaaDoor.Kk
set_option linter.unusedVariables false
set_option linter.unusedSimpArgs false
set_option maxRecDepth 100000
open Go.ChangeShapes Go.WideShapes Go.ChangeAt Go.RowKit
open Go.Maps (Keyed int_keyed keyOf_int_mk)
open Go.Proofs.YtheambpddpfcfaaDoor.Wu Go.Proofs.YtheambpddpfcfaaDoor.Sm Go.Proofs.YtheambpddpfcfaaDoor.Sh Go.Proofs.YtheambpddpfcfaaDoor.Ba Go.Proofs.YtheambpddpfcfaaDoor.Bp Go.Proofs.YtheambpddpfcfaaDoor.Ka Go.Proofs.YtheambpddpfcfaaDoor.Kb Go.Proofs.YtheambpddpfcfaaDoor.Kc Go.Proofs.YtheambpddpfcfaaDoor.Kd Go.Proofs.YtheambpddpfcfaaDoor.Km Go.Proofs.YtheambpddpfcfaaDoor.Rb1 Go.Proofs.YtheambpddpfcfaaDoor.Kg
/-- A block's place. -/
structure Plc where
  i : Nat
  n : Nat
  b : Blk
def plcC (p : Plc) : List Value := .int .i64 (p.i : Int) :: .int .i64 (p.n : Int) :: blkC .u32 p.b
def OkP (ps : List Plc) : Prop := ∀ p ∈ ps, p.b.ok
theorem plcC_length {p : Plc} (h : p.b.ok) : (plcC p).length = 35 := by simp [plcC, blkC_length h]
theorem plcC_one (p : Plc) : ∀ v ∈ plcC p, v.oneCell' = true := by
  intro v hv
  rcases List.mem_cons.1 hv with rfl | hv
  · rfl
  rcases List.mem_cons.1 hv with rfl | hv
  · rfl
  · exact blkC_one _ _ v hv
def rowP (ps : List Plc) : List Value := ps.flatMap plcC
theorem rowP_append (ps qs : List Plc) : rowP (ps ++ qs) = rowP ps ++ rowP qs := by simp [rowP]
theorem rowP_at : ∀ {ps : List Plc}, OkP ps → ∀ {i : Nat} {p : Plc}, ps[i]? = some p → ∀ j, j < 35 → (rowP ps)[i * 35 + j]? = (plcC p)[j]?
  | [], _, i, p, h, _, _ => by simp at h
  | c :: ps, hk, 0, p, h, j, hj => by
    simp at h
    subst h
    have := plcC_length (hk c List.mem_cons_self)
    rw [rowP, List.flatMap_cons, Nat.zero_mul, Nat.zero_add, List.getElem?_append_left (by omega)]
  | c :: ps, hk, i + 1, p, h, j, hj => by
    have h1 := plcC_length (hk c List.mem_cons_self)
    have ih := rowP_at (ps := ps) (fun x hx => hk x (List.mem_cons_of_mem _ hx)) (i := i) (p := p) (by simpa using h) j hj
    rw [rowP, List.flatMap_cons, List.getElem?_append_right (by omega), h1, show (i + 1) * 35 + j - 35 = i * 35 + j by omega]
    exact ih
def OwnP (w : World) (N : Nat) (v : Value) (ps : List Plc) : Prop := OkP ps ∧ w.ownsRow N 120 35 v ps.length (rowP ps)
theorem OwnP.nil (w : World) (N : Nat) : OwnP w N (.slice none 0 0) [] := ⟨(by intro b hb; cases hb), World.ownsRow_nil _ _ _ _⟩
theorem OwnP.own {w : World} {N : Nat} {v : Value} {ps : List Plc} (h : OwnP w N v ps) : ∀ g, v.ownBlock = some g → N ≤ g ∧ g < w.heap.size := fun g hg => h.2.lt g hg
theorem OwnP.same {w w' : World} {N : Nat} {v : Value} {ps : List Plc} (h : OwnP w N v ps) (hk : ∀ g, v.ownBlock = some g → w'.heap[g]? = w.heap[g]?) : OwnP w' N v ps := by
  obtain ⟨h0, h1, h2⟩ := h
  refine ⟨h0, h1, ?_⟩
  rcases h2 with h | ⟨g, cap, cur, rfl, hb, hg, r⟩
  · exact .inl h
  · exact .inr ⟨g, cap, cur, rfl, hb, (hk g rfl).trans hg, r⟩
theorem OwnP.below {w w' : World} {N : Nat} {v : Value} {ps : List Plc} (h : OwnP w N v ps) (hb : Below w.heap.size w w') : OwnP w' N v ps := h.same fun g hg => hb.block g (h.own g hg).2
theorem OwnP.kept {w w' : World} {N : Nat} {v : Value} {ps : List Plc} {row : Option Nat} (h : OwnP w N v ps) (hg : w.grownBy w' row) (hk : v.ownBlock = none ∨ v.ownBlock ≠ row) : OwnP w' N v ps :=
  h.same fun g hv => hg.block g (h.own g hv).2 (fun e => by rcases hk with h1 | h1; rw [h1] at hv; cases hv; exact h1 (by rw [hv, e]))
theorem OwnP.form {w : World} {N : Nat} {v : Value} {ps : List Plc} (h : OwnP w N v ps) : ∃ a cap, v = .slice a ps.length cap ∧ ps.length ≤ cap ∧ cap ≤ 9223372036854775807 ∧ ∃ g, (0 < ps.length → a = some ⟨g, 0, none⟩) ∧ ∀ i p, ps[i]? = some p → p.b.ok ∧ w.rangeAt g (i * 35) (plcC p) := by
  obtain ⟨h0, h1, h2⟩ := h
  rcases h2 with ⟨rfl, hn⟩ | ⟨g, cap, cur, rfl, hb, hg, hl, hm, hs, ht⟩
  · obtain rfl : ps = [] := List.length_eq_zero_iff.1 hn
    exact ⟨none, 0, rfl, Nat.le_refl _, by omega, 0, fun h => absurd h (by simp), fun i p hp => by simp at hp⟩
  · unfold maxLen at hm
    refine ⟨some ⟨g, 0, none⟩, cap, rfl, hl, by omega, g, fun _ => rfl, fun i p hp => ⟨h0 p (List.mem_of_getElem? hp), fun j v hv => ?_⟩⟩
    have hj : j < 35 := by rw [← plcC_length (h0 p (List.mem_of_getElem? hp))]; exact (List.getElem?_eq_some_iff.1 hv).1
    refine blk_cell hg ?_
    have e := rowP_at h0 hp j hj
    rw [hv, ← ht, List.getElem?_take] at e
    split at e
    · simpa using e
    · cases e
theorem info_plc : (Tryd.prog.info? 120).map (fun i => (i.zero, i.size, i.bytes)) = some (some (.agg (plcC ⟨0, 0, ⟨0, zeros 32⟩⟩).toArray), 35, 56) := by kernel_rfl
theorem plc_cells {w : World} {b : Nat} {x : Plc} {T : TypeId} {f : Nat × Nat} (h : w.heap[b]? = some (.cells (plcC x).toArray T f)) : ∀ j u, (plcC x)[j]? = some u → w.cell? ((⟨b, 0, none⟩ : Addr).add j) = some u := by
  intro j u hu
  rw [Addr.add_mid, Nat.zero_add]
  exact blk_cell h (by simpa using hu)
theorem append_plc (w : World) (ty : TypeId) (v : Value) (N : Nat) (ps : List Plc) (b : Nat) (x : Plc) (T : TypeId) (f : Nat × Nat) (c : Nat) (h : OwnP w N v ps) (hN : N ≤ w.heap.size) (hx : x.b.ok) (hb : w.heap[b]? = some (.cells (plcC x).toArray T f)) (hbig : ps.length ≤ 1000000000) :
    ∃ v' w', (Builtin.append_ #[118, 118] ty #[v, .slice (some ⟨b, 0, none⟩) 1 c]).run Tryd.prog w = .ok v' w' ∧ OwnP w' N v' (ps ++ [x]) ∧ w.grownBy w' v.ownBlock ∧ (v'.ownBlock = v.ownBlock ∨ v'.ownBlock = some w.heap.size) := by
  obtain ⟨i0, hi0, hz0, hz1, hz2⟩ := info_parts info_plc
  obtain ⟨h0, ho⟩ := h
  have h35 := plcC_length hx
  obtain ⟨v', w', hr, h1, h2, h3, h4⟩ := run_append_own_at (P := Tryd.prog) w N 118 ty 120 i0 _ 35 56 Tryd.underlying118 hi0 hz0 hz1 hz2 (by kernel_rfl) (by omega) v ps.length (rowP ps) ho ⟨b, 0, none⟩ 1 c (plcC x) (by rw [h35]) (plc_cells hb) (plcC_one x) (by unfold maxLen; omega) (by omega) hN
  refine ⟨v', w', hr, ⟨?_, ?_⟩, h2, h4⟩
  · intro y hy
    rcases List.mem_append.1 hy with hy | hy
    · exact h0 y hy
    · rw [List.mem_singleton.1 hy]; exact hx
  · rw [rowP_append, List.length_append]
    have : rowP [x] = plcC x := by simp [rowP]
    rw [this]
    exact h1
theorem zero_plc : (Tryd.prog.info? 120).bind (·.zero) = some (.agg (plcC ⟨0, 0, ⟨0, zeros 32⟩⟩).toArray) := by kernel_rfl
theorem built_plc (i n : Nat) (b : Blk) (hb : b.ok) : Tryd.prog.built 120 [(0, .int .i64 (i : Int)), (1, .int .i64 (n : Int)), (2, blkV .u32 b)] = some (plcC ⟨i, n, b⟩).toArray := by
  refine built_struct 120 _ _ _ [(0, 1), (1, 1), (2, 33)] (plcC ⟨0, 0, ⟨0, zeros 32⟩⟩) zero_plc Tryd.underlying120 (by kernel_rfl) rfl _ ?_
  have h0 : (plcC ⟨0, 0, ⟨0, zeros 32⟩⟩).length = 35 := by simp [plcC, blkC, b8_length, zeros_length]
  have hb33 := blkC_length (q := .u32) hb
  rw [fill_step _ _ [.int .i64 (i : Int)] 0 0 1 _ _ rfl rfl rfl (by omega)]
  have h1 : (spl (plcC ⟨0, 0, ⟨0, zeros 32⟩⟩) 0 [.int .i64 (i : Int)]).length = 35 := by rw [spl_length _ _ _ (by simp; omega)]; exact h0
  rw [fill_step _ _ [.int .i64 (n : Int)] 1 1 1 _ _ rfl rfl rfl (by omega)]
  have h2 : (spl (spl (plcC ⟨0, 0, ⟨0, zeros 32⟩⟩) 0 [.int .i64 (i : Int)]) 1 [.int .i64 (n : Int)]).length = 35 := by rw [spl_length _ _ _ (by simp; omega)]; exact h1
  rw [fill_step _ _ (blkC .u32 b) 2 2 33 _ _ rfl rfl hb33 (by omega), fill_nil]
  congr 2
  simp [spl, plcC, hb33, blkC, b8_length, zeros_length, hb.2.1]
theorem one_plc (u : World) (p : Plc) (hb : p.b.ok) : (Instr.buildSlice 118 1 #[(0, .agg (plcC p).toArray)]).run Tryd.prog u = .ok (.slice (some ⟨u.heap.size, 0, none⟩) 1 1) (u.alloc (.cells (plcC p).toArray 120)) := by
  obtain ⟨i0, hi0, hz0, hz1, hz2⟩ := info_parts info_plc
  exact run_slice_one u 118 120 (.agg (plcC p).toArray) (plcC p) i0 _ 35 Tryd.underlying118 hi0 hz0 hz1 (by omega) (by omega) rfl (plcC_length hb)
theorem law_u32 : Keyed Tryd.prog 50 := int_keyed Tryd.underlying50
theorem key_u32 {x : Nat} (h : x < 4294967296) : keyOf Tryd.prog 50 (.int .u32 (x : Int)) = some (.int .u32 (x : Int)) := keyOf_int_mk Tryd.underlying50 (by
  have : IntKind.u32.min = 0 := by decide
  have : IntKind.u32.max = 4294967295 := by decide
  simp [Lit.wf, *]
  omega)
theorem zero_sl (w : World) : (zeroValue 118).run Tryd.prog w = .ok (.slice none 0 0) w := by kernel_rfl
/-- The table: by its key each slice of places; no two lie in one row. -/
structure Tab (w : World) (M N : Nat) (l : List (Value × Value)) (G : Nat → List Plc) : Prop where
  map : MapL Tryd.prog 50 w M l
  low : M < N
  entry : ∀ p ∈ l, ∃ x : Nat, x < 4294967296 ∧ p.1 = .int .u32 (x : Int) ∧ OwnP w N p.2 (G x)
  absent : ∀ x : Nat, (∀ p ∈ l, p.1 ≠ .int .u32 (x : Int)) → G x = []
  apart : ∀ p ∈ l, ∀ q ∈ l, p.1 ≠ q.1 → p.2.ownBlock = none ∨ p.2.ownBlock ≠ q.2.ownBlock
theorem Tab.made (w : World) : Tab (w.alloc (.map #[] 0)) w.heap.size (w.heap.size + 1) [] (fun _ => []) :=
  ⟨MapL.made w, by omega, (by intro p hp; cases hp), (fun _ _ => rfl), (by intro p hp; cases hp)⟩
theorem Tab.below {w w' : World} {M N : Nat} {l : List (Value × Value)} {G : Nat → List Plc} (h : Tab w M N l G) (hb : Below w.heap.size w w') : Tab w' M N l G :=
  ⟨h.map.same (hb.block M h.map.lt), h.low, fun p hp => by obtain ⟨x, h1, h2, h3⟩ := h.entry p hp; exact ⟨x, h1, h2, h3.below hb⟩, h.absent, h.apart⟩
theorem Tab.raise {w : World} {M N N' : Nat} {l : List (Value × Value)} {G : Nat → List Plc} (h : Tab w M N l G) (hl : l = []) (hN : N ≤ N') : Tab w M N' l G := by
  subst hl
  exact ⟨h.map, by have := h.low; omega, (by intro p hp; cases hp), h.absent, (by intro p hp; cases hp)⟩
/-- What stands at a key. -/
theorem Tab.at {w : World} {M N : Nat} {l : List (Value × Value)} {G : Nat → List Plc} (h : Tab w M N l G) {x : Nat} (hx : x < 4294967296) :
    ∃ v, (∀ u : World, u.heap[M]? = w.heap[M]? → (Instr.lookup 115 (.map (some M)) (.int .u32 (x : Int)) false).run Tryd.prog u = .ok v u) ∧ OwnP w N v (G x) ∧ (∀ p ∈ l, p.1 ≠ .int .u32 (x : Int) → p.2.ownBlock = none ∨ p.2.ownBlock ≠ v.ownBlock) := by
  rcases h.map.look (t := 115) false law_u32 Tryd.underlying115 (zero_sl w) (key_u32 hx) with ⟨_, hno⟩ | ⟨v, hv, _⟩
  · refine ⟨.slice none 0 0, fun u hu => ?_, ?_, fun p hp _ => ?_⟩
    · rcases (h.map.same hu).look (t := 115) false law_u32 Tryd.underlying115 (zero_sl u) (key_u32 hx) with ⟨hr, _⟩ | ⟨v, hv, _⟩
      · exact hr
      · exact absurd rfl (hno _ hv)
    · rw [h.absent x hno]; exact OwnP.nil w N
    · cases hb : p.2.ownBlock with
      | none => exact .inl rfl
      | some g => exact .inr (fun e => by cases e)
  · refine ⟨v, fun u hu => ?_, ?_, fun p hp hne => h.apart p hp _ hv hne⟩
    · rcases (h.map.same hu).look (t := 115) false law_u32 Tryd.underlying115 (zero_sl u) (key_u32 hx) with ⟨_, hno⟩ | ⟨v', hv', hr⟩
      · exact absurd rfl (hno _ hv)
      · rw [h.map.one hv' hv] at hr; exact hr
    · obtain ⟨y, h1, h2, h3⟩ := h.entry _ hv
      simp only [Value.int.injEq, true_and] at h2
      have : x = y := by omega
      rw [this]; exact h3
end Go.Proofs.YtheambpddpfcfaaDoor.Kk
