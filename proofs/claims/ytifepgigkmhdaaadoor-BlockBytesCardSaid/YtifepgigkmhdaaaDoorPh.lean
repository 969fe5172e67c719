/- Several texts, one behind the other. -/
import Derived.Maps.Keyed
import Derived.Maps.Range
import Derived.OwnWalk
import Derived.Below
import Derived.Test.YtifepgigkmhdaaaDoorPg
import Derived.Test.YtifepgigkmhdaaaDoorPc
import Derived.Lib.SlBytesConst
/- A map told by the list of its entries, whatever its keys and elements are. For any program. -/
namespace Go.Proofs.YtifepgigkmhdaaaDoor.Km
set_option linter.unusedVariables false
set_option linter.unusedSimpArgs false
set_option maxRecDepth 100000
open Go.ChangeShapes Go.WideShapes Go.MapKept Go.Maps Go.RowKit
open Go.ChangeMaps (setBlock)
open Go.WideElems (Fit rd rg pl rd_key rd_val rg_of rd_mk other_key)
/-- Nothing is asked of an element. -/
def triv : Value → Option (DataW Unit × List MemPlace) := fun _ => some (.nil, [])
def pairs (es : Array MapEntry) : List (Value × Value) := es.toList.map fun x => (x.key, x.val)
/-- Block b is a map with these entries. -/
def MapL (P : Program) (k : TypeId) (w : World) (b : Nat) (l : List (Value × Value)) : Prop :=
  ∃ es clock, w.heap[b]? = some (.map es clock) ∧ Fit P k triv es clock ∧ l = pairs es
section
variable {P : Program} {k t e : TypeId} {w : World} {b : Nat} {l : List (Value × Value)}
theorem setBlock_same {o o' : Obj} (h : w.heap[b]? = some o) : (setBlock w b o').heap[b]? = some o' := by
  have : b < w.heap.size := (Array.getElem?_eq_some_iff.1 h).1
  simp [setBlock, this]
theorem setBlock_grown (o : Obj) : w.grownBy (setBlock w b o) (some b) :=
  ⟨rfl, rfl, rfl, by simp [setBlock], fun i _ hi => by
    simp only [setBlock]
    rw [Array.getElem?_setIfInBounds_ne (fun e => hi (by rw [e]))]⟩
theorem MapL.lt (h : MapL P k w b l) : b < w.heap.size := by
  obtain ⟨es, clock, hb, _⟩ := h
  exact (Array.getElem?_eq_some_iff.1 hb).1
theorem MapL.same {w' : World} (h : MapL P k w b l) (e : w'.heap[b]? = w.heap[b]?) : MapL P k w' b l := by
  obtain ⟨es, clock, hb, r⟩ := h
  exact ⟨es, clock, e.trans hb, r⟩
theorem MapL.made (w : World) : MapL P k (w.alloc (.map #[] 0)) w.heap.size [] :=
  ⟨#[], 0, (MapKept.heap_alloc w _).1, ⟨by simp, stamped_empty 0, by simp⟩, rfl⟩
/-- No key stands twice. -/
theorem MapL.once (h : MapL P k w b l) : l.Pairwise (fun p q => p.1 ≠ q.1) := by
  obtain ⟨es, clock, hb, F, rfl⟩ := h
  exact List.pairwise_map.2 ((stamped_iff es clock).1 F.stamped).2.2
theorem MapL.max (h : MapL P k w b l) : l.length ≤ maxLen := by
  obtain ⟨es, clock, hb, F, rfl⟩ := h
  simpa [pairs] using F.size
theorem MapL.key (h : MapL P k w b l) : ∀ p ∈ l, ∃ kl, keyOf P k p.1 = some kl := by
  obtain ⟨es, clock, hb, F, rfl⟩ := h
  intro p hp
  obtain ⟨x, hx, rfl⟩ := List.mem_map.1 hp
  obtain ⟨y, hy⟩ := F.reads x hx
  exact ⟨_, rd_key hy⟩
/-- Of two entries with one key there is one. -/
theorem MapL.one (h : MapL P k w b l) {key v v' : Value} (h1 : (key, v) ∈ l) (h2 : (key, v') ∈ l) : v = v' := by
  have := h.once
  clear h
  induction l with
  | nil => cases h1
  | cons p l ih =>
    obtain ⟨ha, hb⟩ := List.pairwise_cons.1 this
    rcases List.mem_cons.1 h1 with e1 | e1
    · rcases List.mem_cons.1 h2 with e2 | e2
      · rw [← e1] at e2; injection e2 with _ e2; exact e2.symm
      · rw [← e1] at ha; exact (ha _ e2 rfl).elim
    · rcases List.mem_cons.1 h2 with e2 | e2
      · rw [← e2] at ha; exact (ha _ e1 rfl).elim
      · exact ih e1 e2 hb
/-- m[k] -/
theorem MapL.look (h : MapL P k w b l) (c : Bool) (K : Keyed P k) (ht : P.underlying t = some (.map k e)) {z : Value} (hz : (zeroValue e).run P w = .ok z w) {key : Value} {kl : Lit} (hkey : keyOf P k key = some kl) :
    ((Instr.lookup t (.map (some b)) key c).run P w = .ok (if c then .tuple #[z, .bool false] else z) w ∧ ∀ p ∈ l, p.1 ≠ key) ∨
    ∃ v, (key, v) ∈ l ∧ (Instr.lookup t (.map (some b)) key c).run P w = .ok (if c then .tuple #[v, .bool true] else v) w := by
  obtain ⟨es, clock, hb, F, rfl⟩ := h
  rcases fit_look c K ht hz hb F hkey with ⟨h1, h2, _⟩ | ⟨e0, y, h1, h2, h3, _⟩
  · refine .inl ⟨h1, fun p hp => ?_⟩
    obtain ⟨x, hx, rfl⟩ := List.mem_map.1 hp
    exact h2 x hx
  · exact .inr ⟨e0.val, List.mem_map.2 ⟨e0, h1, by rw [h2]⟩, h3⟩
/-- What m[k] = v makes of the entries. -/
def Put (l : List (Value × Value)) (key val : Value) (l' : List (Value × Value)) : Prop :=
  ((∀ p ∈ l, p.1 ≠ key) ∧ l' = l ++ [(key, val)]) ∨ ∃ l1 v l2, l = l1 ++ (key, v) :: l2 ∧ l' = l1 ++ (key, val) :: l2
theorem split_at {α : Type} : ∀ (l : List α) (j : Nat) (x : α), l[j]? = some x → l = l.take j ++ x :: l.drop (j + 1)
  | [], j, x, h => by simp at h
  | a :: l, 0, x, h => by simp at h; subst h; simp
  | a :: l, j + 1, x, h => by
    have := split_at l j x (by simpa using h)
    simp only [List.take_succ_cons, List.drop_succ_cons, List.cons_append, List.cons.injEq, true_and]
    exact this
theorem MapL.store (h : MapL P k w b l) (K : Keyed P k) (ht : P.underlying t = some (.map k e)) (hroom : l.length < maxLen) {key : Value} (val : Value) {kl : Lit} (hkey : keyOf P k key = some kl) :
    ∃ l' w', (Instr.mapUpdate t (.map (some b)) key val).run P w = .ok () w' ∧ MapL P k w' b l' ∧ Put l key val l' ∧ w.grownBy w' (some b) := by
  obtain ⟨es, clock, hb, F, rfl⟩ := h
  have hroom : es.size < maxLen := by simpa [pairs] using hroom
  rcases K.find w hkey es.toList F.keys with ⟨h1, h2⟩ | ⟨j, e0, h1, h2, h3⟩
  · refine ⟨_, setBlock w b (.map (es.push ⟨key, val, clock⟩) (clock + 1)), ?_, ⟨es.push ⟨key, val, clock⟩, clock + 1, setBlock_same hb, ⟨by simp; omega, stamped_push F.stamped h2, ?_⟩, rfl⟩, .inl ⟨?_, ?_⟩, setBlock_grown _⟩
    · simp [Instr.mapUpdate, run_underlying ht, MapKept.run_getObj_map hb, K.check w false hkey, h1, MapKept.run_setObj_map _ hb, Result.andThen, setBlock]
    · intro x hx
      simp only [Array.toList_push, List.mem_append, List.mem_singleton] at hx
      rcases hx with hx | rfl
      · exact F.reads x hx
      · exact ⟨_, rd_mk hkey (yv := (.nil, [])) rfl⟩
    · intro p hp
      obtain ⟨x, hx, rfl⟩ := List.mem_map.1 hp
      exact h2 x hx
    · simp [pairs]
  · have hj : es[j]? = some e0 := by simpa using h2
    have hkeyf : ∀ e', es[j]? = some e' → ({ e' with key := key, val := val } : MapEntry).key = e'.key := fun e' he' => by rw [hj] at he'; cases he'; exact h3.symm
    have hlist : (es.modify j (fun e' => { e' with key := key, val := val })).toList = es.toList.set j { e0 with key := key, val := val } := by rw [Array.toList_modify, ChangeMaps.modify_eq_set _ _ _ _ h2]
    refine ⟨_, setBlock w b (.map (es.modify j (fun e' => { e' with key := key, val := val })) clock), ?_, ⟨es.modify j (fun e' => { e' with key := key, val := val }), clock, setBlock_same hb, ⟨by simpa using F.size, stamped_modify F.stamped _ _ (fun _ _ => rfl) (fun e' _ he' => hkeyf e' he'), ?_⟩, rfl⟩, .inr ⟨(pairs es).take j, e0.val, (pairs es).drop (j + 1), ?_, ?_⟩, setBlock_grown _⟩
    · simp [Instr.mapUpdate, run_underlying ht, MapKept.run_getObj_map hb, K.check w false hkey, h1, hj, h3, K.stays w hkey, MapKept.run_setObj_map _ hb, Result.andThen, setBlock]
    · intro x hx
      rw [hlist] at hx
      rcases List.mem_or_eq_of_mem_set hx with hx | rfl
      · exact F.reads x hx
      · exact ⟨_, rd_mk hkey (yv := (.nil, [])) rfl⟩
    · have := split_at (pairs es) j (e0.key, e0.val) (by simp [pairs, hj])
      rw [h3] at this
      exact this
    · simp only [pairs, hlist]
      rw [List.map_set, List.set_eq_take_append_cons_drop, if_pos (by simpa using (List.getElem?_eq_some_iff.1 h2).1)]
/-- What delete(m, k) makes of them. -/
def Del (l : List (Value × Value)) (key : Value) (l' : List (Value × Value)) : Prop :=
  ((∀ p ∈ l, p.1 ≠ key) ∧ l' = l) ∨ ∃ l1 v l2, l = l1 ++ (key, v) :: l2 ∧ l' = l1 ++ l2
theorem MapL.drop (h : MapL P k w b l) (K : Keyed P k) (ht : P.underlying t = some (.map k e)) (ty : TypeId) {key : Value} {kl : Lit} (hkey : keyOf P k key = some kl) :
    ∃ l' w', (Builtin.delete_ #[t, k] ty #[.map (some b), key]).run P w = .ok (.tuple #[]) w' ∧ MapL P k w' b l' ∧ Del l key l' ∧ w.grownBy w' (some b) := by
  obtain ⟨es, clock, hb, F, rfl⟩ := h
  rcases K.find w hkey es.toList F.keys with ⟨h1, h2⟩ | ⟨j, e0, h1, h2, h3⟩
  · refine ⟨_, setBlock w b (.map es clock), ?_, ⟨es, clock, setBlock_same hb, F, rfl⟩, .inl ⟨?_, rfl⟩, setBlock_grown _⟩
    · simp [Builtin.delete_, run_underlying ht, MapKept.run_getObj_map hb, K.check w _ hkey, h1, MapKept.run_setObj_map _ hb, Result.andThen, setBlock]
    · intro p hp
      obtain ⟨x, hx, rfl⟩ := List.mem_map.1 hp
      exact h2 x hx
  · have hj : es[j]? = some e0 := by simpa using h2
    have hjs : j < es.size := by simpa using (List.getElem?_eq_some_iff.1 h2).1
    have hsub : (es.eraseIdxIfInBounds j).toList = es.toList.eraseIdx j := by
      unfold Array.eraseIdxIfInBounds
      rw [dif_pos hjs]
      simp
    refine ⟨_, setBlock w b (.map (es.eraseIdxIfInBounds j) clock), ?_, ⟨es.eraseIdxIfInBounds j, clock, setBlock_same hb, ⟨Nat.le_trans (MapFrom.size_erase es j) F.size, stamped_erase F.stamped j, ?_⟩, rfl⟩, .inr ⟨(pairs es).take j, e0.val, (pairs es).drop (j + 1), ?_, ?_⟩, setBlock_grown _⟩
    · simp [Builtin.delete_, run_underlying ht, MapKept.run_getObj_map hb, K.check w _ hkey, h1, MapKept.run_setObj_map _ hb, Result.andThen, setBlock]
    · intro x hx
      rw [hsub] at hx
      exact F.reads x ((List.eraseIdx_sublist _ _).subset hx)
    · have := split_at (pairs es) j (e0.key, e0.val) (by simp [pairs, hj])
      rw [h3] at this
      exact this
    · simp only [pairs, hsub, ChangeMaps.map_eraseIdx]
      rw [List.eraseIdx_eq_take_drop_succ]
theorem Put.mem {key val : Value} {l' : List (Value × Value)} (h : Put l key val l') (ho : l.Pairwise (fun p q => p.1 ≠ q.1)) (p : Value × Value) : p ∈ l' ↔ p = (key, val) ∨ (p ∈ l ∧ p.1 ≠ key) := by
  rcases h with ⟨h1, rfl⟩ | ⟨l1, v, l2, rfl, rfl⟩
  · constructor
    · intro hp
      rcases List.mem_append.1 hp with h | h
      · exact .inr ⟨h, h1 p h⟩
      · exact .inl (by simpa using h)
    · rintro (rfl | ⟨h, _⟩) <;> simp [*]
  · have h2 := List.pairwise_append.1 ho
    obtain ⟨h3, h4, h5⟩ := h2
    obtain ⟨h6, h7⟩ := List.pairwise_cons.1 h4
    constructor
    · intro hp
      rcases List.mem_append.1 hp with h | h
      · exact .inr ⟨List.mem_append_left _ h, h5 p h (key, v) List.mem_cons_self⟩
      · rcases List.mem_cons.1 h with rfl | h
        · exact .inl rfl
        · exact .inr ⟨by simp [h], fun e => h6 p h e.symm⟩
    · rintro (rfl | ⟨h, hne⟩)
      · simp
      · rcases List.mem_append.1 h with h | h
        · simp [h]
        · rcases List.mem_cons.1 h with rfl | h
          · exact absurd rfl hne
          · simp [h]
theorem Put.length {key val : Value} {l' : List (Value × Value)} (h : Put l key val l') : l'.length ≤ l.length + 1 := by
  rcases h with ⟨h1, rfl⟩ | ⟨l1, v, l2, rfl, rfl⟩ <;> simp
theorem Del.mem {key : Value} {l' : List (Value × Value)} (h : Del l key l') (ho : l.Pairwise (fun p q => p.1 ≠ q.1)) (p : Value × Value) : p ∈ l' ↔ (p ∈ l ∧ p.1 ≠ key) := by
  rcases h with ⟨h1, rfl⟩ | ⟨l1, v, l2, rfl, rfl⟩
  · exact ⟨fun h => ⟨h, h1 p h⟩, fun h => h.1⟩
  · obtain ⟨h3, h4, h5⟩ := List.pairwise_append.1 ho
    obtain ⟨h6, h7⟩ := List.pairwise_cons.1 h4
    constructor
    · intro hp
      rcases List.mem_append.1 hp with h | h
      · exact ⟨List.mem_append_left _ h, h5 p h (key, v) List.mem_cons_self⟩
      · exact ⟨by simp [h], fun e => h6 p h e.symm⟩
    · rintro ⟨h, hne⟩
      rcases List.mem_append.1 h with h | h
      · simp [h]
      · rcases List.mem_cons.1 h with rfl | h
        · exact absurd rfl hne
        · simp [h]
end
section
variable {P : Program} {w : World} {ops : Array Oper} {rest : List Oper} {o : Oper} {a : Act} {Q : Exit → Act → World → Prop}
/-- The look-up as a step of the walk. -/
theorem wpList_look (hg : o.guard = none) (m x : Operand) (t : TypeId) (c : Bool) (hop : o.op = Op.lookup t m x c) (k e : TypeId) (K : Keyed P k) (ht : P.underlying t = some (.map k e)) (z : Value) (hz : ∀ w : World, (zeroValue e).run P w = .ok z w) (b : Nat) (l : List (Value × Value))
    (hm : a.eval m = .map (some b)) (h : MapL P k w b l) (key : Value) (kl : Lit) (hx : a.eval x = key) (hkey : keyOf P k key = some kl)
    (h1 : (∀ p ∈ l, p.1 ≠ key) → wpList P ops Q rest (a.put o.dst (if c then .tuple #[z, .bool false] else z)) w)
    (h2 : ∀ v, (key, v) ∈ l → wpList P ops Q rest (a.put o.dst (if c then .tuple #[v, .bool true] else v)) w) : wpList P ops Q (o :: rest) a w := by
  refine wpList_plain hg fun K' hK' => ?_
  unfold Oper.wp
  rcases h.look c K ht (hz w) hkey with ⟨hrun, hno⟩ | ⟨v, hv, hrun⟩
  · simp [execOp, hop, hm, hx, hrun, Result.andThen]
    exact hK' _ _ (h1 hno)
  · simp [execOp, hop, hm, hx, hrun, Result.andThen]
    exact hK' _ _ (h2 v hv)
theorem wpList_put (hg : o.guard = none) (m x y : Operand) (t : TypeId) (hop : o.op = Op.mapUpdate t m x y) (k e : TypeId) (K : Keyed P k) (ht : P.underlying t = some (.map k e)) (b : Nat) (l : List (Value × Value))
    (hm : a.eval m = .map (some b)) (h : MapL P k w b l) (hroom : l.length < maxLen) (key val : Value) (kl : Lit) (hx : a.eval x = key) (hy : a.eval y = val) (hkey : keyOf P k key = some kl)
    (hK : ∀ l' w', Hid (MapL P k w' b l') → Hid (Put l key val l') → Hid (w.grownBy w' (some b)) → Hid (wpList P ops Q rest (a.put o.dst undef) w')) : wpList P ops Q (o :: rest) a w := by
  refine wpList_plain hg fun K' hK' => ?_
  obtain ⟨l', w', hrun, h1, h2, h3⟩ := h.store K ht hroom val hkey
  unfold Oper.wp
  simp [execOp, hop, hm, hx, hy, hrun, Result.andThen]
  exact hK' _ _ (hK l' w' h1 h2 h3)
theorem wpList_drop (hg : o.guard = none) (m x : Operand) (t k : TypeId) (hop : o.op = Op.call { callee := Callee.builtin Builtin.delete, args := #[m, x], argTypes := #[t, k] })
    (e : TypeId) (K : Keyed P k) (ht : P.underlying t = some (.map k e)) (b : Nat) (l : List (Value × Value))
    (hm : a.eval m = .map (some b)) (h : MapL P k w b l) (key : Value) (kl : Lit) (hx : a.eval x = key) (hkey : keyOf P k key = some kl)
    (hK : ∀ l' w', Hid (MapL P k w' b l') → Hid (Del l key l') → Hid (w.grownBy w' (some b)) → Hid (wpList P ops Q rest (a.put o.dst (.tuple #[])) w')) : wpList P ops Q (o :: rest) a w := by
  refine wpList_plain hg fun K' hK' => ?_
  obtain ⟨l', w', hrun, h1, h2, h3⟩ := h.drop K ht o.type hkey
  unfold Oper.wp
  simp [execOp, hop, resolve, invoke, builtin, hm, hx, hrun, Result.andThen]
  exact hK' _ _ (hK l' w' h1 h2 h3)
end
end Go.Proofs.YtifepgigkmhdaaaDoor.Km
/- Places of blocks; a table of them by their weak sums: a map of slices of the call's own. -/
namespace Go.Proofs.YtifepgigkmhdaaaDoor.Kk
set_option linter.unusedVariables false
set_option linter.unusedSimpArgs false
set_option maxRecDepth 100000
open Go.ChangeShapes Go.WideShapes Go.ChangeAt Go.RowKit
open Go.Maps (Keyed int_keyed keyOf_int_mk)
open Go.Proofs.YtifepgigkmhdaaaDoor.Wu Go.Proofs.YtifepgigkmhdaaaDoor.Sm Go.Proofs.YtifepgigkmhdaaaDoor.Sh Go.Proofs.YtifepgigkmhdaaaDoor.Ba Go.Proofs.YtifepgigkmhdaaaDoor.Bp Go.Proofs.YtifepgigkmhdaaaDoor.Ka Go.Proofs.YtifepgigkmhdaaaDoor.Kb Go.Proofs.YtifepgigkmhdaaaDoor.Kc Go.Proofs.YtifepgigkmhdaaaDoor.Kd Go.Proofs.YtifepgigkmhdaaaDoor.Km Go.Proofs.YtifepgigkmhdaaaDoor.Rb1 Go.Proofs.YtifepgigkmhdaaaDoor.Kg
/-- A block's place. -/
structure Plc where
  i : Nat
  n : Nat
  b : Blk
def plcC (p : Plc) : List Value := .int .i64 (p.i : Int) :: .int .i64 (p.n : Int) :: blkC .u32 p.b
def OkP (ps : List Plc) : Prop := ∀ p ∈ ps, p.b.ok
theorem plcC_length {p : Plc} (h : p.b.ok) : (plcC p).length = 35 := by simp [plcC, blkC_length h]
theorem plcC_one (p : Plc) : ∀ v ∈ plcC p, v.oneCell' = true := by
  intro v hv
  rcases List.mem_cons.1 hv with rfl | hv
  · rfl
  rcases List.mem_cons.1 hv with rfl | hv
  · rfl
  · exact blkC_one _ _ v hv
def rowP (ps : List Plc) : List Value := ps.flatMap plcC
theorem rowP_append (ps qs : List Plc) : rowP (ps ++ qs) = rowP ps ++ rowP qs := by simp [rowP]
theorem rowP_at : ∀ {ps : List Plc}, OkP ps → ∀ {i : Nat} {p : Plc}, ps[i]? = some p → ∀ j, j < 35 → (rowP ps)[i * 35 + j]? = (plcC p)[j]?
  | [], _, i, p, h, _, _ => by simp at h
  | c :: ps, hk, 0, p, h, j, hj => by
    simp at h
    subst h
    have := plcC_length (hk c List.mem_cons_self)
    rw [rowP, List.flatMap_cons, Nat.zero_mul, Nat.zero_add, List.getElem?_append_left (by omega)]
  | c :: ps, hk, i + 1, p, h, j, hj => by
    have h1 := plcC_length (hk c List.mem_cons_self)
    have ih := rowP_at (ps := ps) (fun x hx => hk x (List.mem_cons_of_mem _ hx)) (i := i) (p := p) (by simpa using h) j hj
    rw [rowP, List.flatMap_cons, List.getElem?_append_right (by omega), h1, show (i + 1) * 35 + j - 35 = i * 35 + j by omega]
    exact ih
def OwnP (w : World) (N : Nat) (v : Value) (ps : List Plc) : Prop := OkP ps ∧ w.ownsRow N 141 35 v ps.length (rowP ps)
theorem OwnP.nil (w : World) (N : Nat) : OwnP w N (.slice none 0 0) [] := ⟨(by intro b hb; cases hb), World.ownsRow_nil _ _ _ _⟩
theorem OwnP.own {w : World} {N : Nat} {v : Value} {ps : List Plc} (h : OwnP w N v ps) : ∀ g, v.ownBlock = some g → N ≤ g ∧ g < w.heap.size := fun g hg => h.2.lt g hg
theorem OwnP.same {w w' : World} {N : Nat} {v : Value} {ps : List Plc} (h : OwnP w N v ps) (hk : ∀ g, v.ownBlock = some g → w'.heap[g]? = w.heap[g]?) : OwnP w' N v ps := by
  obtain ⟨h0, h1, h2⟩ := h
  refine ⟨h0, h1, ?_⟩
  rcases h2 with h | ⟨g, cap, cur, rfl, hb, hg, r⟩
  · exact .inl h
  · exact .inr ⟨g, cap, cur, rfl, hb, (hk g rfl).trans hg, r⟩
theorem OwnP.below {w w' : World} {N : Nat} {v : Value} {ps : List Plc} (h : OwnP w N v ps) (hb : Below w.heap.size w w') : OwnP w' N v ps := h.same fun g hg => hb.block g (h.own g hg).2
theorem OwnP.kept {w w' : World} {N : Nat} {v : Value} {ps : List Plc} {row : Option Nat} (h : OwnP w N v ps) (hg : w.grownBy w' row) (hk : v.ownBlock = none ∨ v.ownBlock ≠ row) : OwnP w' N v ps :=
  h.same fun g hv => hg.block g (h.own g hv).2 (fun e => by rcases hk with h1 | h1; rw [h1] at hv; cases hv; exact h1 (by rw [hv, e]))
theorem OwnP.form {w : World} {N : Nat} {v : Value} {ps : List Plc} (h : OwnP w N v ps) : ∃ a cap, v = .slice a ps.length cap ∧ ps.length ≤ cap ∧ cap ≤ 9223372036854775807 ∧ ∃ g, (0 < ps.length → a = some ⟨g, 0, none⟩) ∧ ∀ i p, ps[i]? = some p → p.b.ok ∧ w.rangeAt g (i * 35) (plcC p) := by
  obtain ⟨h0, h1, h2⟩ := h
  rcases h2 with ⟨rfl, hn⟩ | ⟨g, cap, cur, rfl, hb, hg, hl, hm, hs, ht⟩
  · obtain rfl : ps = [] := List.length_eq_zero_iff.1 hn
    exact ⟨none, 0, rfl, Nat.le_refl _, by omega, 0, fun h => absurd h (by simp), fun i p hp => by simp at hp⟩
  · unfold maxLen at hm
    refine ⟨some ⟨g, 0, none⟩, cap, rfl, hl, by omega, g, fun _ => rfl, fun i p hp => ⟨h0 p (List.mem_of_getElem? hp), fun j v hv => ?_⟩⟩
    have hj : j < 35 := by rw [← plcC_length (h0 p (List.mem_of_getElem? hp))]; exact (List.getElem?_eq_some_iff.1 hv).1
    refine blk_cell hg ?_
    have e := rowP_at h0 hp j hj
    rw [hv, ← ht, List.getElem?_take] at e
    split at e
    · simpa using e
    · cases e
theorem info_plc : (Tryd.prog.info? 141).map (fun i => (i.zero, i.size, i.bytes)) = some (some (.agg (plcC ⟨0, 0, ⟨0, zeros 32⟩⟩).toArray), 35, 56) := by kernel_rfl
theorem plc_cells {w : World} {b : Nat} {x : Plc} {T : TypeId} {f : Nat × Nat} (h : w.heap[b]? = some (.cells (plcC x).toArray T f)) : ∀ j u, (plcC x)[j]? = some u → w.cell? ((⟨b, 0, none⟩ : Addr).add j) = some u := by
  intro j u hu
  rw [Addr.add_mid, Nat.zero_add]
  exact blk_cell h (by simpa using hu)
theorem append_plc (w : World) (ty : TypeId) (v : Value) (N : Nat) (ps : List Plc) (b : Nat) (x : Plc) (T : TypeId) (f : Nat × Nat) (c : Nat) (h : OwnP w N v ps) (hN : N ≤ w.heap.size) (hx : x.b.ok) (hb : w.heap[b]? = some (.cells (plcC x).toArray T f)) (hbig : ps.length ≤ 1000000000) :
    ∃ v' w', (Builtin.append_ #[139, 139] ty #[v, .slice (some ⟨b, 0, none⟩) 1 c]).run Tryd.prog w = .ok v' w' ∧ OwnP w' N v' (ps ++ [x]) ∧ w.grownBy w' v.ownBlock ∧ (v'.ownBlock = v.ownBlock ∨ v'.ownBlock = some w.heap.size) := by
  obtain ⟨i0, hi0, hz0, hz1, hz2⟩ := info_parts info_plc
  obtain ⟨h0, ho⟩ := h
  have h35 := plcC_length hx
  obtain ⟨v', w', hr, h1, h2, h3, h4⟩ := run_append_own_at (P := Tryd.prog) w N 139 ty 141 i0 _ 35 56 Tryd.underlying139 hi0 hz0 hz1 hz2 (by kernel_rfl) (by omega) v ps.length (rowP ps) ho ⟨b, 0, none⟩ 1 c (plcC x) (by rw [h35]) (plc_cells hb) (plcC_one x) (by unfold maxLen; omega) (by omega) hN
  refine ⟨v', w', hr, ⟨?_, ?_⟩, h2, h4⟩
  · intro y hy
    rcases List.mem_append.1 hy with hy | hy
    · exact h0 y hy
    · rw [List.mem_singleton.1 hy]; exact hx
  · rw [rowP_append, List.length_append]
    have : rowP [x] = plcC x := by simp [rowP]
    rw [this]
    exact h1
theorem zero_plc : (Tryd.prog.info? 141).bind (·.zero) = some (.agg (plcC ⟨0, 0, ⟨0, zeros 32⟩⟩).toArray) := by kernel_rfl
theorem built_plc (i n : Nat) (b : Blk) (hb : b.ok) : Tryd.prog.built 141 [(0, .int .i64 (i : Int)), (1, .int .i64 (n : Int)), (2, blkV .u32 b)] = some (plcC ⟨i, n, b⟩).toArray := by
  refine built_struct 141 _ _ _ [(0, 1), (1, 1), (2, 33)] (plcC ⟨0, 0, ⟨0, zeros 32⟩⟩) zero_plc Tryd.underlying141 (by kernel_rfl) rfl _ ?_
  have h0 : (plcC ⟨0, 0, ⟨0, zeros 32⟩⟩).length = 35 := by simp [plcC, blkC, b8_length, zeros_length]
  have hb33 := blkC_length (q := .u32) hb
  rw [fill_step _ _ [.int .i64 (i : Int)] 0 0 1 _ _ rfl rfl rfl (by omega)]
  have h1 : (spl (plcC ⟨0, 0, ⟨0, zeros 32⟩⟩) 0 [.int .i64 (i : Int)]).length = 35 := by rw [spl_length _ _ _ (by simp; omega)]; exact h0
  rw [fill_step _ _ [.int .i64 (n : Int)] 1 1 1 _ _ rfl rfl rfl (by omega)]
  have h2 : (spl (spl (plcC ⟨0, 0, ⟨0, zeros 32⟩⟩) 0 [.int .i64 (i : Int)]) 1 [.int .i64 (n : Int)]).length = 35 := by rw [spl_length _ _ _ (by simp; omega)]; exact h1
  rw [fill_step _ _ (blkC .u32 b) 2 2 33 _ _ rfl rfl hb33 (by omega), fill_nil]
  congr 2
  simp [spl, plcC, hb33, blkC, b8_length, zeros_length, hb.2.1]
theorem one_plc (u : World) (p : Plc) (hb : p.b.ok) : (Instr.buildSlice 139 1 #[(0, .agg (plcC p).toArray)]).run Tryd.prog u = .ok (.slice (some ⟨u.heap.size, 0, none⟩) 1 1) (u.alloc (.cells (plcC p).toArray 141)) := by
  obtain ⟨i0, hi0, hz0, hz1, hz2⟩ := info_parts info_plc
  exact run_slice_one u 139 141 (.agg (plcC p).toArray) (plcC p) i0 _ 35 Tryd.underlying139 hi0 hz0 hz1 (by omega) (by omega) rfl (plcC_length hb)
theorem law_u32 : Keyed Tryd.prog 68 := int_keyed Tryd.underlying68
theorem key_u32 {x : Nat} (h : x < 4294967296) : keyOf Tryd.prog 68 (.int .u32 (x : Int)) = some (.int .u32 (x : Int)) := keyOf_int_mk Tryd.underlying68 (by
  have : IntKind.u32.min = 0 := by decide
  have : IntKind.u32.max = 4294967295 := by decide
  simp [Lit.wf, *]
  omega)
theorem zero_sl (w : World) : (zeroValue 139).run Tryd.prog w = .ok (.slice none 0 0) w := by kernel_rfl
/-- The table: by its key each slice of places; no two lie in one row. -/
structure Tab (w : World) (M N : Nat) (l : List (Value × Value)) (G : Nat → List Plc) : Prop where
  map : MapL Tryd.prog 68 w M l
  low : M < N
  entry : ∀ p ∈ l, ∃ x : Nat, x < 4294967296 ∧ p.1 = .int .u32 (x : Int) ∧ OwnP w N p.2 (G x)
  absent : ∀ x : Nat, (∀ p ∈ l, p.1 ≠ .int .u32 (x : Int)) → G x = []
  apart : ∀ p ∈ l, ∀ q ∈ l, p.1 ≠ q.1 → p.2.ownBlock = none ∨ p.2.ownBlock ≠ q.2.ownBlock
theorem Tab.made (w : World) : Tab (w.alloc (.map #[] 0)) w.heap.size (w.heap.size + 1) [] (fun _ => []) :=
  ⟨MapL.made w, by omega, (by intro p hp; cases hp), (fun _ _ => rfl), (by intro p hp; cases hp)⟩
theorem Tab.below {w w' : World} {M N : Nat} {l : List (Value × Value)} {G : Nat → List Plc} (h : Tab w M N l G) (hb : Below w.heap.size w w') : Tab w' M N l G :=
  ⟨h.map.same (hb.block M h.map.lt), h.low, fun p hp => by obtain ⟨x, h1, h2, h3⟩ := h.entry p hp; exact ⟨x, h1, h2, h3.below hb⟩, h.absent, h.apart⟩
theorem Tab.raise {w : World} {M N N' : Nat} {l : List (Value × Value)} {G : Nat → List Plc} (h : Tab w M N l G) (hl : l = []) (hN : N ≤ N') : Tab w M N' l G := by
  subst hl
  exact ⟨h.map, by have := h.low; omega, (by intro p hp; cases hp), h.absent, (by intro p hp; cases hp)⟩
/-- What stands at a key. -/
theorem Tab.at {w : World} {M N : Nat} {l : List (Value × Value)} {G : Nat → List Plc} (h : Tab w M N l G) {x : Nat} (hx : x < 4294967296) :
    ∃ v, (∀ u : World, u.heap[M]? = w.heap[M]? → (Instr.lookup 136 (.map (some M)) (.int .u32 (x : Int)) false).run Tryd.prog u = .ok v u) ∧ OwnP w N v (G x) ∧ (∀ p ∈ l, p.1 ≠ .int .u32 (x : Int) → p.2.ownBlock = none ∨ p.2.ownBlock ≠ v.ownBlock) := by
  rcases h.map.look (t := 136) false law_u32 Tryd.underlying136 (zero_sl w) (key_u32 hx) with ⟨_, hno⟩ | ⟨v, hv, _⟩
  · refine ⟨.slice none 0 0, fun u hu => ?_, ?_, fun p hp _ => ?_⟩
    · rcases (h.map.same hu).look (t := 136) false law_u32 Tryd.underlying136 (zero_sl u) (key_u32 hx) with ⟨hr, _⟩ | ⟨v, hv, _⟩
      · exact hr
      · exact absurd rfl (hno _ hv)
    · rw [h.absent x hno]; exact OwnP.nil w N
    · cases hb : p.2.ownBlock with
      | none => exact .inl rfl
      | some g => exact .inr (fun e => by cases e)
  · refine ⟨v, fun u hu => ?_, ?_, fun p hp hne => h.apart p hp _ hv hne⟩
    · rcases (h.map.same hu).look (t := 136) false law_u32 Tryd.underlying136 (zero_sl u) (key_u32 hx) with ⟨_, hno⟩ | ⟨v', hv', hr⟩
      · exact absurd rfl (hno _ hv)
      · rw [h.map.one hv' hv] at hr; exact hr
    · obtain ⟨y, h1, h2, h3⟩ := h.entry _ hv
      simp only [Value.int.injEq, true_and] at h2
      have : x = y := by omega
      rw [this]; exact h3
end Go.Proofs.YtifepgigkmhdaaaDoor.Kk
/- The table as it grows. -/
namespace Go.Proofs.YtifepgigkmhdaaaDoor.Kl
set_option linter.unusedVariables false
set_option linter.unusedSimpArgs false
set_option maxRecDepth 100000
open Go.ChangeShapes Go.WideShapes Go.ChangeAt Go.RowKit
open Go.Maps (Keyed int_keyed keyOf_int_mk)
open Go.Proofs.YtifepgigkmhdaaaDoor.Wu Go.Proofs.YtifepgigkmhdaaaDoor.Sm Go.Proofs.YtifepgigkmhdaaaDoor.Sh Go.Proofs.YtifepgigkmhdaaaDoor.Ba Go.Proofs.YtifepgigkmhdaaaDoor.Bp Go.Proofs.YtifepgigkmhdaaaDoor.Ka Go.Proofs.YtifepgigkmhdaaaDoor.Kb Go.Proofs.YtifepgigkmhdaaaDoor.Kc Go.Proofs.YtifepgigkmhdaaaDoor.Kd Go.Proofs.YtifepgigkmhdaaaDoor.Km Go.Proofs.YtifepgigkmhdaaaDoor.Rb1 Go.Proofs.YtifepgigkmhdaaaDoor.Kg Go.Proofs.YtifepgigkmhdaaaDoor.Kk Go.Proofs.YtifepgigkmhdaaaDoor.Rk
/-- The table when a slice has been appended to, and isn't stored yet. -/
structure Tab2 (w : World) (M N : Nat) (l : List (Value × Value)) (G : Nat → List Plc) (x : Nat) (v : Value) (ps : List Plc) : Prop where
  map : MapL Tryd.prog 68 w M l
  low : M < N
  entry : ∀ p ∈ l, p.1 ≠ .int .u32 (x : Int) → ∃ y : Nat, y < 4294967296 ∧ p.1 = .int .u32 (y : Int) ∧ OwnP w N p.2 (G y)
  absent : ∀ y : Nat, (∀ p ∈ l, p.1 ≠ .int .u32 (y : Int)) → G y = []
  apart : ∀ p ∈ l, ∀ q ∈ l, p.1 ≠ q.1 → p.2.ownBlock = none ∨ p.2.ownBlock ≠ q.2.ownBlock
  new : OwnP w N v ps
  alone : ∀ p ∈ l, p.1 ≠ .int .u32 (x : Int) → p.2.ownBlock = none ∨ p.2.ownBlock ≠ v.ownBlock
theorem Tab2.below {w w' : World} {M N : Nat} {l : List (Value × Value)} {G : Nat → List Plc} {x : Nat} {v : Value} {ps : List Plc} (h : Tab2 w M N l G x v ps) (hb : Below w.heap.size w w') : Tab2 w' M N l G x v ps :=
  ⟨h.map.same (hb.block M h.map.lt), h.low, fun p hp hne => by obtain ⟨y, h1, h2, h3⟩ := h.entry p hp hne; exact ⟨y, h1, h2, h3.below hb⟩, h.absent, h.apart, h.new.below hb, h.alone⟩
theorem Tab.append {w w' : World} {M N : Nat} {l : List (Value × Value)} {G : Nat → List Plc} (h : Tab w M N l G) {x : Nat} {v v' : Value} {ps : List Plc} (hv : OwnP w N v (G x)) (hal : ∀ p ∈ l, p.1 ≠ .int .u32 (x : Int) → p.2.ownBlock = none ∨ p.2.ownBlock ≠ v.ownBlock)
    (hg : w.grownBy w' v.ownBlock) (hn : OwnP w' N v' ps) (ho : v'.ownBlock = v.ownBlock ∨ v'.ownBlock = some w.heap.size) : Tab2 w' M N l G x v' ps := by
  refine ⟨h.map.same (hg.block M h.map.lt (fun e => ?_)), h.low, fun p hp hne => ?_, h.absent, h.apart, hn, fun p hp hne => ?_⟩
  · have := (hv.own M e.symm).1
    have := h.low
    omega
  · obtain ⟨y, h1, h2, h3⟩ := h.entry p hp
    exact ⟨y, h1, h2, h3.kept hg (hal p hp hne)⟩
  · rcases ho with e | e
    · rw [e]; exact hal p hp hne
    · obtain ⟨y, h1, h2, h3⟩ := h.entry p hp
      cases hb : p.2.ownBlock with
      | none => exact .inl rfl
      | some g =>
        have := (h3.own g hb).2
        right; rw [e]; intro e'; injection e' with e'; omega
theorem Tab2.store {w : World} {M N : Nat} {l : List (Value × Value)} {G : Nat → List Plc} {x : Nat} {v : Value} {ps : List Plc} (h : Tab2 w M N l G x v ps) (hx : x < 4294967296) (hroom : l.length < maxLen) :
    ∃ l' w', (Instr.mapUpdate 136 (.map (some M)) (.int .u32 (x : Int)) v).run Tryd.prog w = .ok () w' ∧ Tab w' M N l' (fun y => if y = x then ps else G y) ∧ w.grownBy w' (some M) ∧ l'.length ≤ l.length + 1 := by
  obtain ⟨l', w', hr, hm, hp, hg⟩ := h.map.store (t := 136) law_u32 Tryd.underlying136 hroom v (key_u32 hx)
  have hmem := hp.mem h.map.once
  have hM : ∀ g, N ≤ g → some g ≠ some M := fun g hN e => by injection e with e; have := h.low; omega
  have keep : ∀ u qs, OwnP w N u qs → OwnP w' N u qs := fun u qs hu => hu.kept hg (by
    cases hb : u.ownBlock with
    | none => exact .inl rfl
    | some g => exact .inr (hM g (hu.own g hb).1))
  refine ⟨l', w', hr, ⟨hm, h.low, fun p hp' => ?_, fun y hy => ?_, fun p hp' q hq' hne => ?_⟩, hg, hp.length⟩
  · rcases (hmem p).1 hp' with rfl | ⟨h1, h2⟩
    · exact ⟨x, hx, rfl, by simp only [if_true]; exact keep _ _ h.new⟩
    · obtain ⟨y, h3, h4, h5⟩ := h.entry p h1 h2
      refine ⟨y, h3, h4, ?_⟩
      rw [if_neg (fun e => h2 (by rw [h4, e]))]
      exact keep _ _ h5
  · have hyx : y ≠ x := fun e => hy _ ((hmem _).2 (.inl rfl)) (by rw [e])
    rw [if_neg hyx]
    refine h.absent y (fun p hp' e => ?_)
    exact hy p ((hmem p).2 (.inr ⟨hp', fun e2 => hyx (by rw [e] at e2; simp only [Value.int.injEq, true_and] at e2; omega)⟩)) e
  · rcases (hmem p).1 hp' with rfl | ⟨h1, h2⟩
    · rcases (hmem q).1 hq' with rfl | ⟨h3, h4⟩
      · exact absurd rfl hne
      · cases hb : v.ownBlock with
        | none => exact .inl rfl
        | some g =>
          right
          rcases h.alone q h3 h4 with e | e
          · show some g ≠ q.2.ownBlock
            rw [e]; intro e'; cases e'
          · rw [hb] at e; exact fun e' => e e'.symm
    · rcases (hmem q).1 hq' with rfl | ⟨h3, h4⟩
      · exact h.alone p h1 h2
      · exact h.apart p h1 q h3 hne
theorem kUpon_look {P : Program} {a : Act} {o : Oper} {u : World} {K : Value → World → Prop} (t : TypeId) (m x : Operand) (c : Bool) (hop : o.op = Op.lookup t m x c) (v : Value) (mv kv : Value) (hm : a.eval m = mv) (hk : a.eval x = kv) (hr : (Instr.lookup t mv kv c).run P u = .ok v u) (h : K v u) : kUpon P K ((execOp a.eval o).run P u) := by
  subst hm hk
  have e : (execOp a.eval o).run P u = .ok (.value v) u := by
    simp [execOp, hop, hr, Result.andThen]
  rw [e]
  exact h
theorem kUpon_put {P : Program} {a : Act} {o : Oper} {u u' : World} {K : Value → World → Prop} (t : TypeId) (m x y : Operand) (hop : o.op = Op.mapUpdate t m x y) (mv kv v : Value) (hm : a.eval m = mv) (hk : a.eval x = kv) (hv : a.eval y = v) (hr : (Instr.mapUpdate t mv kv v).run P u = .ok () u') (h : K undef u') : kUpon P K ((execOp a.eval o).run P u) := by
  subst hm hk hv
  have e : (execOp a.eval o).run P u = .ok .skip u' := by
    simp [execOp, hop, hr, Result.andThen]
  rw [e]
  exact h
/-- The places of the first i blocks. -/
def plcs (s l : Nat) (bs : List Blk) (i : Nat) : List Plc := (List.range i).map fun j => ⟨j, min s (l - j * s), bs.getD j ⟨0, []⟩⟩
def grp (s l : Nat) (bs : List Blk) (i x : Nat) : List Plc := (plcs s l bs i).filter fun p => p.b.w = x
theorem grp_zero (s l : Nat) (bs : List Blk) : grp s l bs 0 = fun _ => [] := by funext x; rfl
theorem grp_step (s l : Nat) (bs : List Blk) (i : Nat) (b : Blk) (hb : bs[i]? = some b) : grp s l bs (i + 1) = fun y => if y = b.w then grp s l bs i b.w ++ [⟨i, min s (l - i * s), b⟩] else grp s l bs i y := by
  funext y
  have hd : bs.getD i ⟨0, []⟩ = b := by simp [List.getD, hb]
  unfold grp plcs
  rw [List.range_succ, List.map_append, List.filter_append]
  simp only [List.map_cons, List.map_nil, hd]
  by_cases h : y = b.w
  · rw [if_pos h, h]; simp
  · rw [if_neg h]
    have : ¬ b.w = y := fun e => h e.symm
    simp [this]
theorem grp_length (s l : Nat) (bs : List Blk) (i x : Nat) : (grp s l bs i x).length ≤ i := by
  refine Nat.le_trans (List.length_filter_le _ _) ?_
  simp [plcs]
end Go.Proofs.YtifepgigkmhdaaaDoor.Kl
/- As Rg, but for the operations of one value each: of each one is said up to which stage it yields it; those that lead on from there wait for it. So a region may load what it stores. For any program. -/
namespace Go.Proofs.YtifepgigkmhdaaaDoor.Rh
set_option linter.unusedVariables false
set_option linter.unusedSimpArgs false
set_option maxRecDepth 100000
open Go.Proofs.YtifepgigkmhdaaaDoor.Rk
section
variable {P : Program} {ops : Array Oper} {md : Region.Mode} {T : List Value → World → Prop}
/-- The operation yields v in every world of every stage from h on, and keeps the stage. -/
def KeepsF (P : Program) (ops : Array Oper) (T : List Value → World → Prop) (h : List Value) (o : Oper) (v : Value) (a : Act) : Prop :=
  (Region.wanted o (yielded ops a.tmps) = true ∧ ∀ (h' : List Value) (w : World) (K : Value → World → Prop), T (h ++ h') w → (∀ w', T (h ++ h') w' → K v w') → kUpon P K ((execOp a.eval o).run P w)) ∨
  (Region.wanted o (yielded ops a.tmps) = false ∧ v = undef)
theorem KeepsF.up {h : List Value} {o : Oper} {v : Value} {a : Act} (hy : KeepsF P ops T h o v a) (u : Value) : KeepsF P ops T (h ++ [u]) o v a := by
  rcases hy with ⟨h1, h2⟩ | h
  · refine .inl ⟨h1, fun h' w K hT hK => ?_⟩
    rw [List.append_assoc] at hT
    refine h2 ([u] ++ h') w K hT (fun w' hT' => hK w' ?_)
    rw [List.append_assoc]; exact hT'
  · exact .inr h
/-- The operation yields v at every stage of at most L steps, and keeps it. -/
def KeepsB (P : Program) (ops : Array Oper) (T : List Value → World → Prop) (L : Nat) (o : Oper) (v : Value) (a : Act) : Prop :=
  (Region.wanted o (yielded ops a.tmps) = true ∧ ∀ (h : List Value) (w : World) (K : Value → World → Prop), h.length ≤ L → T h w → (∀ w', T h w' → K v w') → kUpon P K ((execOp a.eval o).run P w)) ∨
  (Region.wanted o (yielded ops a.tmps) = false ∧ v = undef)
theorem KeepsB.of_same {L : Nat} {o : Oper} {v : Value} {a a' : Act} (hy : KeepsB P ops T L o v a) (he : execOp a'.eval o = execOp a.eval o)
    (hw : Region.wanted o (yielded ops a'.tmps) = Region.wanted o (yielded ops a.tmps)) : KeepsB P ops T L o v a' := by
  unfold KeepsB at *
  rw [he, hw]
  exact hy
/-- The operation leads from this stage to the next one, whatever it yields (of the kind V). -/
def KeepsD (P : Program) (ops : Array Oper) (T : List Value → World → Prop) (h : List Value) (V : Value → Prop) (o : Oper) (a : Act) : Prop :=
  Region.wanted o (yielded ops a.tmps) = true ∧ (∃ v, V v) ∧ ∀ (w : World) (K : Value → World → Prop), T h w → (∀ v w', V v → T (h ++ [v]) w' → K v w') → kUpon P K ((execOp a.eval o).run P w)
theorem KeepsF.of_same {h : List Value} {o : Oper} {v : Value} {a a' : Act} (hy : KeepsF P ops T h o v a) (he : execOp a'.eval o = execOp a.eval o)
    (hw : Region.wanted o (yielded ops a'.tmps) = Region.wanted o (yielded ops a.tmps)) : KeepsF P ops T h o v a' := by
  unfold KeepsF at *
  rw [he, hw]
  exact hy
theorem KeepsD.of_same {h : List Value} {V : Value → Prop} {o : Oper} {a a' : Act} (hy : KeepsD P ops T h V o a) (he : execOp a'.eval o = execOp a.eval o)
    (hw : Region.wanted o (yielded ops a'.tmps) = Region.wanted o (yielded ops a.tmps)) : KeepsD P ops T h V o a' := by
  unfold KeepsD at *
  rw [he, hw]
  exact hy
/-- In whatever order; 'c k' is the value of the k-th operation; 'some none', if it hangs on those that hang on the world; none, if it hangs on the world itself. -/
def wpAnyD (P : Program) (md : Region.Mode) (ops : Array Oper) (T : List Value → World → Prop) (c : Nat → Option (Option Value)) (lim : Nat → Nat) (Q : Act → List Value → Prop) : Nat → Array Bool → Act → List Value → Prop
  | 0, listed, a, h => Region.ready md ops listed = [] ∧ Q a h
  | fuel + 1, listed, a, h => (Region.ready md ops listed = [] → Q a h) ∧
      ∀ i ∈ Region.ready md ops listed, ∀ o, ops[i]? = some o →
        (∀ v, c i = some (some v) → h.length ≤ lim i ∧ KeepsB P ops T (lim i) o v a ∧ wpAnyD P md ops T c lim Q fuel (listed.setIfInBounds i true) (a.put o.dst v) h) ∧
        (c i = some none → ∃ v, KeepsF P ops T h o v a ∧ wpAnyD P md ops T c lim Q fuel (listed.setIfInBounds i true) (a.put o.dst v) h) ∧
        (c i = none → ∃ V : Value → Prop, KeepsD P ops T h V o a ∧ ∀ v, V v → wpAnyD P md ops T c lim Q fuel (listed.setIfInBounds i true) (a.put o.dst v) (h ++ [v]))
theorem wpAny_of_D {c : Nat → Option (Option Value)} {lim : Nat → Nat} {Q : Act → List Value → Prop} {Q' : Exit → Act → World → Prop} (hQ : ∀ a h, Q a h → ∀ w, T h w → Q' .normal a w) :
    ∀ (fuel : Nat) (listed : Array Bool) (a : Act) (h : List Value) (w : World), T h w → wpAnyD P md ops T c lim Q fuel listed a h → wpAny P md ops Q' fuel listed a w
  | 0, listed, a, h, w, hS, H => ⟨H.1, hQ a h H.2 w hS⟩
  | fuel + 1, listed, a, h, w, hS, H => by
    refine ⟨fun h0 => hQ a h (H.1 h0) w hS, fun i hi => ?_⟩
    unfold wpOp
    cases ho : ops[i]? with
    | none =>
      obtain ⟨_, o, hoo, _⟩ := mem_ready.1 hi
      rw [ho] at hoo; cases hoo
    | some o =>
      obtain ⟨hF, hG, hD⟩ := H.2 i hi o ho
      have both : ∀ v, ((Region.wanted o (yielded ops a.tmps) = true ∧ ∀ (w : World) (K : Value → World → Prop), T h w → (∀ w', T h w' → K v w') → kUpon P K ((execOp a.eval o).run P w)) ∨ (Region.wanted o (yielded ops a.tmps) = false ∧ v = undef)) → wpAnyD P md ops T c lim Q fuel (listed.setIfInBounds i true) (a.put o.dst v) h → (if Region.wanted o (yielded ops a.tmps) = true then o.wp P a w (wpAny P md ops Q' fuel (listed.setIfInBounds i true)) Q' ∨ (o.asks P a w ∧ LetsOut Q') else wpAny P md ops Q' fuel (listed.setIfInBounds i true) (a.put o.dst undef) w) := by
        intro v hk hn
        have next : ∀ w', T h w' → wpAny P md ops Q' fuel (listed.setIfInBounds i true) (a.put o.dst v) w' := fun w' hS' => wpAny_of_D hQ fuel _ _ h w' hS' hn
        rcases hk with ⟨hw, hk⟩ | ⟨hw, rfl⟩
        · simp only [hw, if_true]
          refine Or.inl ?_
          have h1 := hk w (fun x w' => x = v ∧ T h w') hS (fun w' hS' => ⟨rfl, hS'⟩)
          unfold Oper.wp
          generalize (execOp a.eval o).run P w = r at h1
          cases r with
          | ok n w1 =>
            cases n <;> simp only [kUpon] at h1
            case value x => obtain ⟨rfl, h2⟩ := h1; exact next _ h2
            case skip => obtain ⟨rfl, h2⟩ := h1; exact next _ h2
            case enter f args =>
              show Calls P f args w1 _
              refine h1.mono fun e w2 he => ?_
              cases e with
              | returned x => obtain ⟨rfl, h2⟩ := he; exact next _ h2
              | panicked c => exact he.elim
              | outgrown => exact he.elim
          | halt x w1 => simp only [kUpon] at h1
        · simp only [hw, Bool.false_eq_true, if_false]
          exact next w hS
      cases hc : c i with
      | some ov =>
        cases ov with
        | some v =>
          obtain ⟨hl, hk, hn⟩ := hF v hc
          exact both v (by
            rcases hk with ⟨h1, h2⟩ | h1
            · exact .inl ⟨h1, fun w K hT hK => h2 h w K hl hT hK⟩
            · exact .inr h1) hn
        | none =>
          obtain ⟨v, hk, hn⟩ := hG hc
          exact both v (by
            rcases hk with ⟨h1, h2⟩ | h1
            · exact .inl ⟨h1, fun w K hT hK => by
                have := h2 [] w K (by rw [List.append_nil]; exact hT) (fun w' hT' => hK w' (by rw [List.append_nil] at hT'; exact hT'))
                exact this⟩
            · exact .inr h1) hn
      | none =>
        obtain ⟨V, ⟨hw, _, hk⟩, hn⟩ := hD hc
        have next : ∀ v w', V v ∧ T (h ++ [v]) w' → wpAny P md ops Q' fuel (listed.setIfInBounds i true) (a.put o.dst v) w' := fun v w' hS' => wpAny_of_D hQ fuel _ _ (h ++ [v]) w' hS'.2 (hn v hS'.1)
        simp only [hw, if_true]
        refine Or.inl ?_
        have h1 := hk w (fun x w' => V x ∧ T (h ++ [x]) w') hS (fun v w' hv hS' => ⟨hv, hS'⟩)
        unfold Oper.wp
        generalize (execOp a.eval o).run P w = r at h1
        cases r with
        | ok n w1 =>
          cases n <;> simp only [kUpon] at h1
          case value x => exact next _ _ h1
          case skip => exact next _ _ h1
          case enter f args =>
            show Calls P f args w1 _
            refine h1.mono fun e w2 he => ?_
            cases e with
            | returned x => exact next _ _ he
            | panicked c => exact he.elim
            | outgrown => exact he.elim
        | halt x w1 => simp only [kUpon] at h1
/-- Whether an operation waits for another one, by however many others. -/
def waits (md : Region.Mode) (ops : Array Oper) (i : Nat) : Nat → Nat → Bool
  | 0, _ => false
  | f + 1, j => match ops[j]? with
    | none => false
    | some o => o.after.any fun e => Region.binds md e && (e.on == i || waits md ops i f e.on)
/-- What is done has all done that it waits for. -/
def Closed (md : Region.Mode) (ops : Array Oper) (listed : Array Bool) : Prop :=
  ∀ k o, listed.getD k false = true → ops[k]? = some o → ∀ e ∈ o.after, Region.binds md e = true → listed.getD e.on false = true
theorem getD_both {listed : Array Bool} {i : Nat} (h : listed.getD i true = false) : listed.getD i false = false := by
  rcases Nat.lt_or_ge i listed.size with h' | h'
  · simpa [h'] using h
  · simp [Array.getElem?_eq_none h'] at h
theorem Closed.set {listed : Array Bool} {j : Nat} (hc : Closed md ops listed) (hj : j ∈ Region.ready md ops listed) : Closed md ops (listed.setIfInBounds j true) := by
  obtain ⟨hjun, oj, hoj, hall⟩ := mem_ready.1 hj
  have mono : ∀ x, listed.getD x false = true → (listed.setIfInBounds j true).getD x false = true := by
    intro x hx
    by_cases hxj : j = x
    · subst hxj
      rw [getD_both hjun] at hx; cases hx
    · rw [getD_set_ne false hxj]; exact hx
  intro k o hk ho e he hb
  by_cases hkj : j = k
  · subst hkj
    obtain rfl := Option.some.inj (hoj.symm.trans ho)
    exact mono _ (hall e he hb)
  · rw [getD_set_ne false hkj] at hk
    exact mono _ (hc k o hk ho e he hb)
theorem waits_not {listed : Array Bool} {i : Nat} (hc : Closed md ops listed) (hi : listed.getD i true = false) : ∀ f j o, ops[j]? = some o → waits md ops i f j = true → ¬ (∀ e ∈ o.after, Region.binds md e = true → listed.getD e.on false = true)
  | 0, j, o, ho, hw, _ => by simp [waits] at hw
  | f + 1, j, o, ho, hw, hall => by
    simp only [waits, ho, Array.any_eq_true', Bool.and_eq_true, Bool.or_eq_true, beq_iff_eq] at hw
    obtain ⟨e, he, hb, h⟩ := hw
    have hl := hall e he hb
    rcases h with h | h
    · rw [h, getD_both hi] at hl; cases hl
    · cases hoe : ops[e.on]? with
      | none =>
        cases f with
        | zero => simp [waits] at h
        | succ f => simp [waits, hoe] at h
      | some oe => exact waits_not hc hi f e.on oe hoe h (fun e' he' hb' => hc e.on oe hl hoe e' he' hb')
/-- How many of them may still come ahead of i. -/
def before (md : Region.Mode) (ops : Array Oper) (i : Nat) (listed : Array Bool) (ds : List Nat) : Nat := ds.countP fun j => !listed.getD j true && !waits md ops i ops.size j
theorem countP_le {p q : Nat → Bool} : ∀ (l : List Nat), (∀ x, q x = true → p x = true) → l.countP q ≤ l.countP p
  | [], _ => Nat.le_refl _
  | x :: l, h => by
    have ih := countP_le l h
    rw [List.countP_cons, List.countP_cons]
    cases hq : q x
    · simp; omega
    · rw [h x hq]; simp; exact ih
theorem countP_lt {p q : Nat → Bool} {j : Nat} (hp : p j = true) (hq : q j = false) : ∀ (l : List Nat), j ∈ l → (∀ x, q x = true → p x = true) → l.countP q + 1 ≤ l.countP p
  | [], hj, _ => by cases hj
  | x :: l, hj, h => by
    rw [List.countP_cons, List.countP_cons]
    rcases List.mem_cons.1 hj with rfl | hj
    · have := countP_le l h
      rw [hp, hq]; simp; omega
    · have ih := countP_lt hp hq l hj h
      cases hqx : q x
      · simp; omega
      · rw [h x hqx]; simp; omega
theorem before_set {i j : Nat} {listed : Array Bool} {ds : List Nat} : before md ops i (listed.setIfInBounds j true) ds ≤ before md ops i listed ds := by
  refine countP_le ds fun x hx => ?_
  simp only [Bool.and_eq_true, Bool.not_eq_true'] at hx ⊢
  refine ⟨?_, hx.2⟩
  by_cases hjx : j = x
  · subst hjx
    rcases Nat.lt_or_ge j listed.size with h' | h'
    · simp [h'] at hx
    · simpa [h'] using hx.1
  · have := hx.1
    rwa [getD_set_ne true hjx] at this
theorem before_take {i j : Nat} {listed : Array Bool} {ds : List Nat} (hj : j ∈ ds) (hun : listed.getD j true = false) (hw : waits md ops i ops.size j = false) : before md ops i (listed.setIfInBounds j true) ds + 1 ≤ before md ops i listed ds := by
  refine countP_lt (j := j) (by simp only [hun, hw]; rfl) ?_ ds hj fun x hx => ?_
  · rcases Nat.lt_or_ge j listed.size with h' | h'
    · simp [h']
    · simp [Array.getElem?_eq_none h'] at hun
  · simp only [Bool.and_eq_true, Bool.not_eq_true'] at hx ⊢
    refine ⟨?_, hx.2⟩
    by_cases hjx : j = x
    · subst hjx
      exact hun
    · have := hx.1
      rwa [getD_set_ne true hjx] at this
section
variable {c : Nat → Option (Option Value)} {lim : Nat → Nat} {Q : Act → List Value → Prop} {i : Nat} {oi : Oper}
/-- One of a known value can be taken first. -/
theorem firstB {v : Value} {ds : List Nat} (hds : ∀ j, c j = none → j ∈ ds) (hi : ops[i]? = some oi) (hci : c i = some (some v)) (hsel : ∀ (j : Nat) (o : Oper) cs b, ops[j]? = some o → o.op ≠ .select cs b) :
    ∀ (fuel : Nat) (listed : Array Bool) (a : Act) (h : List Value), Closed md ops listed → h.length + before md ops i listed ds ≤ lim i →
      (∀ j oj, ops[j]? = some oj → j ≠ i → listed.getD j true = false → (∀ e ∈ oj.after, Region.binds md e = true → e.on ≠ i) → oi.apart ops oj = true) →
      i ∈ Region.ready md ops listed → KeepsB P ops T (lim i) oi v a →
      wpAnyD P md ops T c lim Q fuel (listed.setIfInBounds i true) (a.put oi.dst v) h → wpAnyD P md ops T c lim Q (fuel + 1) listed a h := by
  intro fuel
  have atI : ∀ (f : Nat) (listed : Array Bool) (a : Act) (h : List Value), h.length ≤ lim i → KeepsB P ops T (lim i) oi v a → wpAnyD P md ops T c lim Q f (listed.setIfInBounds i true) (a.put oi.dst v) h →
      (∀ u, c i = some (some u) → h.length ≤ lim i ∧ KeepsB P ops T (lim i) oi u a ∧ wpAnyD P md ops T c lim Q f (listed.setIfInBounds i true) (a.put oi.dst u) h) ∧
      (c i = some none → ∃ u, KeepsF P ops T h oi u a ∧ wpAnyD P md ops T c lim Q f (listed.setIfInBounds i true) (a.put oi.dst u) h) ∧
      (c i = none → ∃ V : Value → Prop, KeepsD P ops T h V oi a ∧ ∀ u, V u → wpAnyD P md ops T c lim Q f (listed.setIfInBounds i true) (a.put oi.dst u) (h ++ [u])) := by
    intro f listed a h hl hy H
    refine ⟨fun u hu => ?_, fun hn => by rw [hci] at hn; simp at hn, fun hn => by rw [hci] at hn; cases hn⟩
    rw [hci] at hu
    simp at hu
    subst hu
    exact ⟨hl, hy, H⟩
  induction fuel with
  | zero =>
    intro listed a h hcl hcnt _ hr hy H
    refine ⟨fun h => (by rw [h] at hr; cases hr), fun j hj oj hoj => ?_⟩
    by_cases hji : j = i
    · subst hji
      obtain rfl := Option.some.inj (hi.symm.trans hoj)
      exact atI 0 listed a h (by omega) hy H
    · have := ready_mono hj hji
      rw [H.1] at this
      cases this
  | succ fuel ih =>
    intro listed a h hcl hcnt hfree hr hy H
    refine ⟨fun h => (by rw [h] at hr; cases hr), fun j hj oj hoj => ?_⟩
    by_cases hji : j = i
    · subst hji
      obtain rfl := Option.some.inj (hi.symm.trans hoj)
      exact atI (fuel + 1) listed a h (by omega) hy H
    · obtain ⟨hF, hG, hD⟩ := H.2 j (ready_mono hj hji) oj hoj
      obtain ⟨hjun, oj', hoj', hall⟩ := mem_ready.1 hj
      obtain rfl := Option.some.inj (hoj.symm.trans hoj')
      have hiun := (mem_ready.1 hr).1
      have hnot : ∀ e ∈ oj.after, Region.binds md e = true → e.on ≠ i := fun e he hb heq => by
        have h1 := hall e he hb
        rw [heq, getD_both hiun] at h1
        cases h1
      have hap := hfree j oj hoj hji hjun hnot
      obtain ⟨a1, a2, a3⟩ := Oper.apart_spec hap
      have hsi := fun cs b => hsel i oi cs b hi
      have hsj := fun cs b => hsel j oj cs b hoj
      have hfree' : ∀ k ok, ops[k]? = some ok → k ≠ i → (listed.setIfInBounds j true).getD k true = false →
          (∀ e ∈ ok.after, Region.binds md e = true → e.on ≠ i) → oi.apart ops ok = true := fun k ok hk hki hun hno => by
        refine hfree k ok hk hki ?_ hno
        by_cases hjk : j = k
        · subst hjk; exact hjun
        · rw [getD_set_ne true hjk] at hun; exact hun
      have hcnt' : h.length + before md ops i (listed.setIfInBounds j true) ds ≤ lim i := Nat.le_trans (Nat.add_le_add_left before_set _) hcnt
      refine ⟨fun u hu => ?_, fun hn => ?_, fun hn => ?_⟩
      · obtain ⟨hl, hk, hnx⟩ := hF u hu
        refine ⟨hl, hk.of_same (execOp_put oj hsj a oi.dst v a1).symm (wanted_put oj a oi.dst v a1).symm, ?_⟩
        refine ih (listed.setIfInBounds j true) (a.put oj.dst u) h (hcl.set hj) hcnt' hfree' (ready_mono hr (Ne.symm hji)) (hy.of_same (execOp_put oi hsi a oj.dst u a3) (wanted_put oi a oj.dst u a3)) ?_
        rw [Array.setIfInBounds_comm _ _ hji, ← Act.put_comm a v u a2]
        exact hnx
      · obtain ⟨u, hk, hnx⟩ := hG hn
        refine ⟨u, hk.of_same (execOp_put oj hsj a oi.dst v a1).symm (wanted_put oj a oi.dst v a1).symm, ?_⟩
        refine ih (listed.setIfInBounds j true) (a.put oj.dst u) h (hcl.set hj) hcnt' hfree' (ready_mono hr (Ne.symm hji)) (hy.of_same (execOp_put oi hsi a oj.dst u a3) (wanted_put oi a oj.dst u a3)) ?_
        rw [Array.setIfInBounds_comm _ _ hji, ← Act.put_comm a v u a2]
        exact hnx
      · obtain ⟨V, hk, hnx⟩ := hD hn
        refine ⟨V, hk.of_same (execOp_put oj hsj a oi.dst v a1).symm (wanted_put oj a oi.dst v a1).symm, fun u hu => ?_⟩
        have hw : waits md ops i ops.size j = false := by
          cases hw : waits md ops i ops.size j
          · rfl
          · exact absurd hall (waits_not hcl hiun _ j oj hoj hw)
        have hb := before_take (md := md) (ops := ops) (i := i) (hds j hn) hjun hw
        refine ih (listed.setIfInBounds j true) (a.put oj.dst u) (h ++ [u]) (hcl.set hj) (by rw [List.length_append, List.length_singleton]; omega) hfree' (ready_mono hr (Ne.symm hji)) (hy.of_same (execOp_put oi hsi a oj.dst u a3) (wanted_put oi a oj.dst u a3)) ?_
        rw [Array.setIfInBounds_comm _ _ hji, ← Act.put_comm a v u a2]
        exact hnx u hu
/-- One that hangs on the stage can be taken first. -/
theorem firstG {v : Value} (hi : ops[i]? = some oi) (hci : c i = some none) (hsel : ∀ (j : Nat) (o : Oper) cs b, ops[j]? = some o → o.op ≠ .select cs b) :
    ∀ (fuel : Nat) (listed : Array Bool) (a : Act) (h : List Value),
      (∀ j oj, ops[j]? = some oj → j ≠ i → listed.getD j true = false → (∀ e ∈ oj.after, Region.binds md e = true → e.on ≠ i) → oi.apart ops oj = true) →
      i ∈ Region.ready md ops listed → KeepsF P ops T h oi v a →
      wpAnyD P md ops T c lim Q fuel (listed.setIfInBounds i true) (a.put oi.dst v) h → wpAnyD P md ops T c lim Q (fuel + 1) listed a h := by
  intro fuel
  have atI : ∀ (f : Nat) (listed : Array Bool) (a : Act) (h : List Value), KeepsF P ops T h oi v a → wpAnyD P md ops T c lim Q f (listed.setIfInBounds i true) (a.put oi.dst v) h →
      (∀ u, c i = some (some u) → h.length ≤ lim i ∧ KeepsB P ops T (lim i) oi u a ∧ wpAnyD P md ops T c lim Q f (listed.setIfInBounds i true) (a.put oi.dst u) h) ∧
      (c i = some none → ∃ u, KeepsF P ops T h oi u a ∧ wpAnyD P md ops T c lim Q f (listed.setIfInBounds i true) (a.put oi.dst u) h) ∧
      (c i = none → ∃ V : Value → Prop, KeepsD P ops T h V oi a ∧ ∀ u, V u → wpAnyD P md ops T c lim Q f (listed.setIfInBounds i true) (a.put oi.dst u) (h ++ [u])) := by
    intro f listed a h hy H
    exact ⟨fun u hu => by rw [hci] at hu; simp at hu, fun hn => ⟨v, hy, H⟩, fun hn => by rw [hci] at hn; cases hn⟩
  induction fuel with
  | zero =>
    intro listed a h _ hr hy H
    refine ⟨fun h => (by rw [h] at hr; cases hr), fun j hj oj hoj => ?_⟩
    by_cases hji : j = i
    · subst hji
      obtain rfl := Option.some.inj (hi.symm.trans hoj)
      exact atI 0 listed a h hy H
    · have := ready_mono hj hji
      rw [H.1] at this
      cases this
  | succ fuel ih =>
    intro listed a h hfree hr hy H
    refine ⟨fun h => (by rw [h] at hr; cases hr), fun j hj oj hoj => ?_⟩
    by_cases hji : j = i
    · subst hji
      obtain rfl := Option.some.inj (hi.symm.trans hoj)
      exact atI (fuel + 1) listed a h hy H
    · obtain ⟨hF, hG, hD⟩ := H.2 j (ready_mono hj hji) oj hoj
      obtain ⟨hjun, oj', hoj', hall⟩ := mem_ready.1 hj
      obtain rfl := Option.some.inj (hoj.symm.trans hoj')
      have hiun := (mem_ready.1 hr).1
      have hnot : ∀ e ∈ oj.after, Region.binds md e = true → e.on ≠ i := fun e he hb heq => by
        have h1 := hall e he hb
        rw [heq, getD_both hiun] at h1
        cases h1
      have hap := hfree j oj hoj hji hjun hnot
      obtain ⟨a1, a2, a3⟩ := Oper.apart_spec hap
      have hsi := fun cs b => hsel i oi cs b hi
      have hsj := fun cs b => hsel j oj cs b hoj
      have hfree' : ∀ k ok, ops[k]? = some ok → k ≠ i → (listed.setIfInBounds j true).getD k true = false →
          (∀ e ∈ ok.after, Region.binds md e = true → e.on ≠ i) → oi.apart ops ok = true := fun k ok hk hki hun hno => by
        refine hfree k ok hk hki ?_ hno
        by_cases hjk : j = k
        · subst hjk; exact hjun
        · rw [getD_set_ne true hjk] at hun; exact hun
      refine ⟨fun u hu => ?_, fun hn => ?_, fun hn => ?_⟩
      · obtain ⟨hl, hk, hnx⟩ := hF u hu
        refine ⟨hl, hk.of_same (execOp_put oj hsj a oi.dst v a1).symm (wanted_put oj a oi.dst v a1).symm, ?_⟩
        refine ih (listed.setIfInBounds j true) (a.put oj.dst u) h hfree' (ready_mono hr (Ne.symm hji)) (hy.of_same (execOp_put oi hsi a oj.dst u a3) (wanted_put oi a oj.dst u a3)) ?_
        rw [Array.setIfInBounds_comm _ _ hji, ← Act.put_comm a v u a2]
        exact hnx
      · obtain ⟨u, hk, hnx⟩ := hG hn
        refine ⟨u, hk.of_same (execOp_put oj hsj a oi.dst v a1).symm (wanted_put oj a oi.dst v a1).symm, ?_⟩
        refine ih (listed.setIfInBounds j true) (a.put oj.dst u) h hfree' (ready_mono hr (Ne.symm hji)) (hy.of_same (execOp_put oi hsi a oj.dst u a3) (wanted_put oi a oj.dst u a3)) ?_
        rw [Array.setIfInBounds_comm _ _ hji, ← Act.put_comm a v u a2]
        exact hnx
      · obtain ⟨V, hk, hnx⟩ := hD hn
        refine ⟨V, hk.of_same (execOp_put oj hsj a oi.dst v a1).symm (wanted_put oj a oi.dst v a1).symm, fun u hu => ?_⟩
        refine ih (listed.setIfInBounds j true) (a.put oj.dst u) (h ++ [u]) hfree' (ready_mono hr (Ne.symm hji)) ((hy.up u).of_same (execOp_put oi hsi a oj.dst u a3) (wanted_put oi a oj.dst u a3)) ?_
        rw [Array.setIfInBounds_comm _ _ hji, ← Act.put_comm a v u a2]
        exact hnx u hu
theorem firstD {V : Value → Prop} (hi : ops[i]? = some oi) (hci : c i = none) (hsel : ∀ (j : Nat) (o : Oper) cs b, ops[j]? = some o → o.op ≠ .select cs b) :
    ∀ (fuel : Nat) (listed : Array Bool) (a : Act) (h : List Value), Closed md ops listed →
      (∀ j, (∀ v, c j ≠ some (some v)) → j ≠ i → listed.getD j true = false → ∃ f, waits md ops i f j = true) →
      (∀ j oj, ops[j]? = some oj → j ≠ i → listed.getD j true = false → (∀ e ∈ oj.after, Region.binds md e = true → e.on ≠ i) → oi.apart ops oj = true) →
      i ∈ Region.ready md ops listed → KeepsD P ops T h V oi a →
      (∀ v, V v → wpAnyD P md ops T c lim Q fuel (listed.setIfInBounds i true) (a.put oi.dst v) (h ++ [v])) → wpAnyD P md ops T c lim Q (fuel + 1) listed a h := by
  intro fuel
  induction fuel with
  | zero =>
    intro listed a h _ _ _ hr hy H
    refine ⟨fun h => (by rw [h] at hr; cases hr), fun j hj oj hoj => ?_⟩
    by_cases hji : j = i
    · subst hji
      obtain rfl := Option.some.inj (hi.symm.trans hoj)
      exact ⟨fun u hu => absurd (hci.symm.trans hu) (fun e => by cases e), fun hu => absurd (hci.symm.trans hu) (fun e => by cases e), fun _ => ⟨V, hy, H⟩⟩
    · have := ready_mono hj hji
      obtain ⟨v0, hv0⟩ := hy.2.1
      rw [(H v0 hv0).1] at this
      cases this
  | succ fuel ih =>
    intro listed a h hcl hch hfree hr hy H
    refine ⟨fun h => (by rw [h] at hr; cases hr), fun j hj oj hoj => ?_⟩
    by_cases hji : j = i
    · subst hji
      obtain rfl := Option.some.inj (hi.symm.trans hoj)
      exact ⟨fun u hu => absurd (hci.symm.trans hu) (fun e => by cases e), fun hu => absurd (hci.symm.trans hu) (fun e => by cases e), fun _ => ⟨V, hy, H⟩⟩
    · obtain ⟨hjun, oj', hoj', hall⟩ := mem_ready.1 hj
      obtain rfl := Option.some.inj (hoj.symm.trans hoj')
      have hiun := (mem_ready.1 hr).1
      have hnot : ∀ e ∈ oj.after, Region.binds md e = true → e.on ≠ i := fun e he hb heq => by
        have h1 := hall e he hb
        rw [heq, getD_both hiun] at h1
        cases h1
      have hap := hfree j oj hoj hji hjun hnot
      obtain ⟨a1, a2, a3⟩ := Oper.apart_spec hap
      have hsi := fun cs b => hsel i oi cs b hi
      have hsj := fun cs b => hsel j oj cs b hoj
      have keepun : ∀ k, (listed.setIfInBounds j true).getD k true = false → listed.getD k true = false := fun k hun => by
        by_cases hjk : j = k
        · subst hjk; exact hjun
        · rw [getD_set_ne true hjk] at hun; exact hun
      have hfree' : ∀ k ok, ops[k]? = some ok → k ≠ i → (listed.setIfInBounds j true).getD k true = false →
          (∀ e ∈ ok.after, Region.binds md e = true → e.on ≠ i) → oi.apart ops ok = true := fun k ok hk hki hun hno => hfree k ok hk hki (keepun k hun) hno
      refine ⟨fun u hu => ?_, fun hn => ?_, fun hn => ?_⟩
      · have hall2 := fun v hv => ((H v hv).2 j (ready_mono hj hji) oj hoj).1 u hu
        obtain ⟨v0, hv0⟩ := hy.2.1
        have hl0 := (hall2 v0 hv0).1
        rw [List.length_append, List.length_singleton] at hl0
        refine ⟨by omega, (hall2 v0 hv0).2.1.of_same (execOp_put oj hsj a oi.dst v0 a1).symm (wanted_put oj a oi.dst v0 a1).symm, ?_⟩
        refine ih (listed.setIfInBounds j true) (a.put oj.dst u) h (hcl.set hj) (fun k hk hki hun => hch k hk hki (keepun k hun)) hfree' (ready_mono hr (Ne.symm hji)) (hy.of_same (execOp_put oi hsi a oj.dst u a3) (wanted_put oi a oj.dst u a3)) (fun v hv => ?_)
        rw [Array.setIfInBounds_comm _ _ hji, ← Act.put_comm a v u a2]
        exact (hall2 v hv).2.2
      · obtain ⟨f, hw⟩ := hch j (fun v hv => by rw [hn] at hv; cases hv) hji hjun
        exact absurd hall (waits_not hcl hiun f j oj hoj hw)
      · obtain ⟨f, hw⟩ := hch j (fun v hv => by rw [hn] at hv; cases hv) hji hjun
        exact absurd hall (waits_not hcl hiun f j oj hoj hw)
end
/-- The walk in the order of the text; of the operations of one value the list says up to how many steps they yield it. -/
def wpLexD (P : Program) (ops : Array Oper) (T : List Value → World → Prop) (Q : Act → List Value → Prop) : List Oper → List (Option (Option Value)) → List Nat → Act → List Value → Prop
  | [], _, _, a, h => Q a h
  | o :: l, some (some v) :: cs, L :: Ls, a, h => KeepsB P ops T L o v a ∧ wpLexD P ops T Q l cs Ls (a.put o.dst v) h
  | o :: l, some none :: cs, _ :: Ls, a, h => ∃ v, KeepsF P ops T h o v a ∧ wpLexD P ops T Q l cs Ls (a.put o.dst v) h
  | o :: l, none :: cs, _ :: Ls, a, h => ∃ V : Value → Prop, KeepsD P ops T h V o a ∧ ∀ v, V v → wpLexD P ops T Q l cs Ls (a.put o.dst v) (h ++ [v])
  | _ :: _, _, _, _, _ => False
/-- The steps that may come ahead of each operation of one value are no more than its number says. -/
def fixB (md : Region.Mode) (ops : Array Oper) (ds : List Nat) : List (Option (Option Value)) → List Nat → Nat → Nat → Bool
  | some (some _) :: cs, L :: Ls, k, m => decide (m + ds.countP (fun j => decide (k ≤ j) && !waits md ops k ops.size j) ≤ L) && fixB md ops ds cs Ls (k + 1) m
  | some none :: cs, _ :: Ls, k, m => fixB md ops ds cs Ls (k + 1) m
  | none :: cs, _ :: Ls, k, m => fixB md ops ds cs Ls (k + 1) (m + 1)
  | _, _, _, _ => true
/-- Those whose values hang on the world, and those that hang on them, wait for the former that stand ahead of them. -/
def chainD (md : Region.Mode) (ops : Array Oper) (ds gs : List Nat) : Bool :=
  ds.all fun i => gs.all fun j => decide (j ≤ i) || waits md ops i ops.size j
def nones : List (Option (Option Value)) → Nat → List Nat
  | [], _ => []
  | none :: l, k => k :: nones l (k + 1)
  | some _ :: l, k => nones l (k + 1)
def lates : List (Option (Option Value)) → Nat → List Nat
  | [], _ => []
  | none :: l, k => k :: lates l (k + 1)
  | some none :: l, k => k :: lates l (k + 1)
  | some (some _) :: l, k => lates l (k + 1)
theorem nones_mem : ∀ (l : List (Option (Option Value))) (k j : Nat), l[j]? = some none → k + j ∈ nones l k
  | [], k, j, h => by simp at h
  | none :: l, k, 0, h => by simp [nones]
  | none :: l, k, j + 1, h => by
    have := nones_mem l (k + 1) j (by simpa using h)
    rw [nones]
    exact List.mem_cons_of_mem _ (by rwa [show k + (j + 1) = k + 1 + j by omega])
  | some _ :: l, k, 0, h => by simp at h
  | some _ :: l, k, j + 1, h => by
    have := nones_mem l (k + 1) j (by simpa using h)
    rw [nones]
    rwa [show k + (j + 1) = k + 1 + j by omega]
theorem lates_mem : ∀ (l : List (Option (Option Value))) (k j : Nat) (x : Option (Option Value)), l[j]? = some x → (∀ v, x ≠ some (some v)) → k + j ∈ lates l k
  | [], k, j, x, h, _ => by simp at h
  | none :: l, k, 0, x, h, _ => by simp [lates]
  | none :: l, k, j + 1, x, h, hx => by
    have := lates_mem l (k + 1) j x (by simpa using h) hx
    rw [lates]
    exact List.mem_cons_of_mem _ (by rwa [show k + (j + 1) = k + 1 + j by omega])
  | some none :: l, k, 0, x, h, _ => by simp [lates]
  | some none :: l, k, j + 1, x, h, hx => by
    have := lates_mem l (k + 1) j x (by simpa using h) hx
    rw [lates]
    exact List.mem_cons_of_mem _ (by rwa [show k + (j + 1) = k + 1 + j by omega])
  | some (some v) :: l, k, 0, x, h, hx => by
    simp at h
    exact absurd h.symm (hx v)
  | some (some _) :: l, k, j + 1, x, h, hx => by
    have := lates_mem l (k + 1) j x (by simpa using h) hx
    rw [lates]
    rwa [show k + (j + 1) = k + 1 + j by omega]
theorem before_le {k : Nat} {listed : Array Bool} {ds : List Nat} (hlt : ∀ j, j < k → listed.getD j true = true) : before md ops k listed ds ≤ ds.countP (fun j => decide (k ≤ j) && !waits md ops k ops.size j) := by
  refine countP_le ds fun x hx => ?_
  simp only [Bool.and_eq_true, Bool.not_eq_true', decide_eq_true_eq] at hx ⊢
  refine ⟨?_, hx.2⟩
  rcases Nat.lt_or_ge x k with h | h
  · rw [hlt x h] at hx; simp at hx
  · exact h
theorem lexD {c : Nat → Option (Option Value)} {lim : Nat → Nat} {Q : Act → List Value → Prop} {ds : List Nat} (hds : ∀ j, c j = none → j ∈ ds) (hs : Region.noSelect ops = true) (hch : ∀ i j, c i = none → (∀ v, c j ≠ some (some v)) → i < j → ∃ f, waits md ops i f j = true) :
    ∀ (l : List Oper) (cs : List (Option (Option Value))) (Ls : List Nat) (k m : Nat) (listed : Array Bool) (a : Act) (h : List Value), (∀ j, l[j]? = ops[k + j]?) → (∀ j x, cs[j]? = some x → c (k + j) = x) → (∀ j x, Ls[j]? = some x → lim (k + j) = x) →
    h.length = m → fixB md ops ds cs Ls k m = true →
    Closed md ops listed → (∀ j, j < k → listed.getD j true = true) →
    Region.lexFrom md ops l.length k listed = true → wpLexD P ops T Q l cs Ls a h → wpAnyD P md ops T c lim Q l.length listed a h
  | [], _, _, _, _, _, _, _, _, _, _, _, _, _, _, hB, H => ⟨by simpa [Region.lexFrom] using hB, by simpa [wpLexD] using H⟩
  | o :: l, [], _, _, _, _, _, _, _, _, _, _, _, _, _, _, H => by simp [wpLexD] at H
  | o :: l, x :: cs, [], _, _, _, _, _, _, _, _, _, _, _, _, _, H => by
    match x, H with
    | some (some v), H => simp [wpLexD] at H
    | some none, H => simp [wpLexD] at H
    | none, H => simp [wpLexD] at H
  | o :: l, x :: cs, L :: Ls, k, m, listed, a, h, hl, hcs, hLs, hm, hfix, hcl, hlt, hB, H => by
    have h0 : ops[k]? = some o := by simpa using (hl 0).symm
    have hck : c k = x := by simpa using hcs 0 x (by simp)
    have hlk : lim k = L := by simpa using hLs 0 L (by simp)
    simp only [List.length_cons, Region.lexFrom, Bool.and_eq_true] at hB
    obtain ⟨⟨hr, hf⟩, hB'⟩ := hB
    have hr' : k ∈ Region.ready md ops listed := by simpa using hr
    have hl' : ∀ j, l[j]? = ops[k + 1 + j]? := fun j => by have := hl (j + 1); simpa [Nat.add_assoc, Nat.add_comm 1 j] using this
    have hcs' : ∀ j y, cs[j]? = some y → c (k + 1 + j) = y := fun j y hy => by
      have := hcs (j + 1) y (by simpa using hy)
      rwa [show k + 1 + j = k + (j + 1) by omega]
    have hLs' : ∀ j y, Ls[j]? = some y → lim (k + 1 + j) = y := fun j y hy => by
      have := hLs (j + 1) y (by simpa using hy)
      rwa [show k + 1 + j = k + (j + 1) by omega]
    have hlt' : ∀ j, j < k + 1 → (listed.setIfInBounds k true).getD j true = true := fun j hj => by
      by_cases e : k = j
      · subst e
        rcases Nat.lt_or_ge k listed.size with h' | h'
        · simp [h']
        · simp [h']
      · rw [getD_set_ne true e]; exact hlt j (by omega)
    match x, hck, H, hfix with
    | some (some v), hck, H, hfix =>
      obtain ⟨hy, hK⟩ := H
      simp only [fixB, Bool.and_eq_true, decide_eq_true_eq] at hfix
      have hb := before_le (md := md) (ops := ops) (ds := ds) hlt
      exact firstB hds h0 hck (Region.noSelect_spec hs) l.length listed a h hcl (by rw [hlk]; omega) (Region.free_spec h0 hf) hr' (by rw [hlk]; exact hy) (lexD hds hs hch l cs Ls (k + 1) m _ _ h hl' hcs' hLs' hm hfix.2 (hcl.set hr') hlt' hB' hK)
    | some none, hck, H, hfix =>
      obtain ⟨v, hy, hK⟩ := H
      exact firstG (v := v) h0 hck (Region.noSelect_spec hs) l.length listed a h (Region.free_spec h0 hf) hr' hy (lexD hds hs hch l cs Ls (k + 1) m _ _ h hl' hcs' hLs' hm (by simpa [fixB] using hfix) (hcl.set hr') hlt' hB' hK)
    | none, hck, H, hfix =>
      obtain ⟨V, hy, hK⟩ := H
      refine firstD h0 hck (Region.noSelect_spec hs) l.length listed a h hcl (fun j hj hjk hun => ?_) (Region.free_spec h0 hf) hr' hy (fun v hv => lexD hds hs hch l cs Ls (k + 1) (m + 1) _ _ (h ++ [v]) hl' hcs' hLs' (by rw [List.length_append, List.length_singleton, hm]) (by simpa [fixB] using hfix) (hcl.set hr') hlt' hB' (hK v hv))
      refine hch k j hck hj ?_
      rcases Nat.lt_or_ge k j with h1 | h1
      · exact h1
      · have := hlt j (by omega)
        rw [hun] at this; cases this
/-- The region. -/
theorem wp_region_h {id : Nat} {Q : Exit → Act → World → Prop} {a : Act} {w : World} {l : List Oper} (T : List Value → World → Prop) (cs : List (Option (Option Value))) (Ls : List Nat) (hm : P.follows .mixedOrders = true) (hB : Region.lexB .any l.toArray = true) (ds gs : List Nat) (hds : nones cs 0 = ds) (hgs : lates cs 0 = gs) (hD : chainD .any l.toArray ds gs = true) (hX : fixB .any l.toArray ds cs Ls 0 0 = true) (hS : T [] w.drew)
    (h : wpLexD P l.toArray T (fun a' h' => ∀ w', T h' w' → Q .normal a' w') l cs Ls a []) : (Code.region id l.toArray true).wp P Q a w := by
  simp only [Region.lexB, Bool.and_eq_true] at hB
  refine wp_region_any hm (wpAny_of_D (T := T) (c := fun k => (cs[k]?).getD (some (some undef))) (lim := fun k => (Ls[k]?).getD 0) (Q := fun a' h' => ∀ w', T h' w' → Q .normal a' w') (fun _ _ h => h) _ _ _ [] _ hS ?_)
  have mds : ∀ i, (cs[i]?).getD (some (some undef)) = none → i ∈ ds := by
    intro i hi
    rw [← hds]
    cases hx : cs[i]? with
    | none => rw [hx] at hi; cases hi
    | some x =>
      rw [hx] at hi
      have := nones_mem cs 0 i (by rw [hx]; exact congrArg some hi)
      rwa [Nat.zero_add] at this
  have hch : ∀ i j, (cs[i]?).getD (some (some undef)) = none → (∀ v, (cs[j]?).getD (some (some undef)) ≠ some (some v)) → i < j → ∃ f, waits .any l.toArray i f j = true := by
    intro i j hi hj hij
    have mi : i ∈ ds := mds i hi
    have mj : j ∈ gs := by
      rw [← hgs]
      cases hx : cs[j]? with
      | none => rw [hx] at hj; exact absurd rfl (hj undef)
      | some x =>
        rw [hx] at hj
        have := lates_mem cs 0 j x hx hj
        rwa [Nat.zero_add] at this
    unfold chainD at hD
    have h1 := List.all_eq_true.1 (List.all_eq_true.1 hD i mi) j mj
    simp only [Bool.or_eq_true, decide_eq_true_eq] at h1
    rcases h1 with h1 | h1
    · omega
    · exact ⟨_, h1⟩
  have := lexD (md := .any) (T := T) (lim := fun k => (Ls[k]?).getD 0) mds hB.1 hch l cs Ls 0 0 (Array.replicate l.toArray.size false) a [] (by simp) (fun j x hx => by simp [hx]) (fun j x hx => by simp [hx]) rfl hX (fun k o hk => by simp [Array.getElem?_replicate] at hk; split at hk <;> simp at hk) (fun j hj => by omega) (by simpa using hB.2) h
  simpa using this
/-- One value, at all stages of at most L steps. -/
theorem gF_step {Q : Act → List Value → Prop} {o : Oper} {l : List Oper} {v : Value} {cs : List (Option (Option Value))} {L : Nat} {Ls : List Nat} {a : Act} {h : List Value} (hw : Region.wanted o (yielded ops a.tmps) = true)
    (hk : ∀ (h : List Value) (w : World) (K : Value → World → Prop), h.length ≤ L → T h w → (∀ w', T h w' → K v w') → kUpon P K ((execOp a.eval o).run P w)) (hn : wpLexD P ops T Q l cs Ls (a.put o.dst v) h) : wpLexD P ops T Q (o :: l) (some (some v) :: cs) (L :: Ls) a h := ⟨.inl ⟨hw, hk⟩, hn⟩
theorem gF_not {Q : Act → List Value → Prop} {o : Oper} {l : List Oper} {cs : List (Option (Option Value))} {L : Nat} {Ls : List Nat} {a : Act} {h : List Value} (hw : Region.wanted o (yielded ops a.tmps) = false) (hn : wpLexD P ops T Q l cs Ls (a.put o.dst undef) h) : wpLexD P ops T Q (o :: l) (some (some undef) :: cs) (L :: Ls) a h := ⟨.inr ⟨hw, rfl⟩, hn⟩
/-- A value that hangs on those before, from this stage on. -/
theorem gG_step {Q : Act → List Value → Prop} {o : Oper} {l : List Oper} {v : Value} {cs : List (Option (Option Value))} {L : Nat} {Ls : List Nat} {a : Act} {h : List Value} (hw : Region.wanted o (yielded ops a.tmps) = true)
    (hk : ∀ (h' : List Value) (w : World) (K : Value → World → Prop), T (h ++ h') w → (∀ w', T (h ++ h') w' → K v w') → kUpon P K ((execOp a.eval o).run P w)) (hn : wpLexD P ops T Q l cs Ls (a.put o.dst v) h) : wpLexD P ops T Q (o :: l) (some none :: cs) (L :: Ls) a h := ⟨v, .inl ⟨hw, hk⟩, hn⟩
theorem gG_not {Q : Act → List Value → Prop} {o : Oper} {l : List Oper} {cs : List (Option (Option Value))} {L : Nat} {Ls : List Nat} {a : Act} {h : List Value} (hw : Region.wanted o (yielded ops a.tmps) = false) (hn : wpLexD P ops T Q l cs Ls (a.put o.dst undef) h) : wpLexD P ops T Q (o :: l) (some none :: cs) (L :: Ls) a h := ⟨undef, .inr ⟨hw, rfl⟩, hn⟩
/-- A value that hangs on the world, of the kind V. -/
theorem gD_step {Q : Act → List Value → Prop} {o : Oper} {l : List Oper} {cs : List (Option (Option Value))} {L : Nat} {Ls : List Nat} {a : Act} {h : List Value} (V : Value → Prop) (hV : ∃ v, V v) (hw : Region.wanted o (yielded ops a.tmps) = true)
    (hk : ∀ (w : World) (K : Value → World → Prop), T h w → (∀ v w', V v → T (h ++ [v]) w' → K v w') → kUpon P K ((execOp a.eval o).run P w)) (hn : ∀ v, V v → wpLexD P ops T Q l cs Ls (a.put o.dst v) (h ++ [v])) : wpLexD P ops T Q (o :: l) (none :: cs) (L :: Ls) a h := ⟨V, ⟨hw, hV, hk⟩, hn⟩
/-- One whose value is v, at this stage alone. -/
theorem gE_step {Q : Act → List Value → Prop} {o : Oper} {l : List Oper} {v : Value} {cs : List (Option (Option Value))} {L : Nat} {Ls : List Nat} {a : Act} {h : List Value} (hw : Region.wanted o (yielded ops a.tmps) = true)
    (hk : ∀ (w : World) (K : Value → World → Prop), T h w → (∀ w', T (h ++ [v]) w' → K v w') → kUpon P K ((execOp a.eval o).run P w)) (hn : wpLexD P ops T Q l cs Ls (a.put o.dst v) (h ++ [v])) : wpLexD P ops T Q (o :: l) (none :: cs) (L :: Ls) a h :=
  ⟨fun x => x = v, ⟨hw, ⟨v, rfl⟩, fun w K hT hK => hk w K hT (fun w' => hK v w' rfl)⟩, fun x hx => by subst hx; exact hn⟩
theorem g_nil {Q : Act → List Value → Prop} {cs : List (Option (Option Value))} {Ls : List Nat} {a : Act} {h : List Value} (hq : Q a h) : wpLexD P ops T Q [] cs Ls a h := by simpa [wpLexD] using hq
end
end Go.Proofs.YtifepgigkmhdaaaDoor.Rh
/- block.Make. -/
namespace Go.Proofs.YtifepgigkmhdaaaDoor.Kf
set_option linter.unusedVariables false
set_option linter.unusedSimpArgs false
set_option maxRecDepth 100000
open Go.ChangeShapes Go.WideShapes Go.ChangeAt Go.RowKit
open Go.Proofs.YtifepgigkmhdaaaDoor.Wu Go.Proofs.YtifepgigkmhdaaaDoor.Sm Go.Proofs.YtifepgigkmhdaaaDoor.Sh Go.Proofs.YtifepgigkmhdaaaDoor.Ba Go.Proofs.YtifepgigkmhdaaaDoor.Bp Go.Proofs.YtifepgigkmhdaaaDoor.Ka Go.Proofs.YtifepgigkmhdaaaDoor.Kb Go.Proofs.YtifepgigkmhdaaaDoor.Kc Go.Proofs.YtifepgigkmhdaaaDoor.Kd Go.Proofs.YtifepgigkmhdaaaDoor.Ke Go.Proofs.YtifepgigkmhdaaaDoor.Rk Go.Proofs.YtifepgigkmhdaaaDoor.Rh Go.Proofs.YtifepgigkmhdaaaDoor.Rw Go.Proofs.YtifepgigkmhdaaaDoor.Rb1 Go.Proofs.YtifepgigkmhdaaaDoor.Kg
open Go.Proofs.YtifepgigkmhdaaaDoor.Sn (Fst fst_keep)
open Go.Proofs.YtifepgigkmhdaaaDoor.Sxa (Tbl tbl_keep)
open Go.Proofs.YtifepgigkmhdaaaDoor.Su (cutL Cnt)
attribute [local go_sem] kUpon_value kUpon_skip kUpon_enter
theorem load_sig {T : TypeId} {w : World} {S : Nat} {sz cut len : Int} {v : Value} (h : Sig4 T w S sz cut len v) : Sem.run Tryd.prog (loadVar 49 ⟨S, 0, none⟩) w = .ok (sigV sz cut len v) w :=
  load_all 49 h _ Tryd.underlying49 rfl (by kernel_rfl)
theorem sig_cells {w : World} {S : Nat} {x0 x1 x2 x3 : Value} {T : TypeId} {f : Nat × Nat} (h : w.heap[S]? = some (.cells #[x0, x1, x2, x3] T f)) : w.cell? ⟨S, 0, none⟩ = some x0 ∧ w.cell? ⟨S, 1, none⟩ = some x1 ∧ w.cell? ⟨S, 2, none⟩ = some x2 ∧ w.cell? ⟨S, 3, none⟩ = some x3 :=
  ⟨blk_cell h rfl, blk_cell h rfl, blk_cell h rfl, blk_cell h rfl⟩
theorem sig_free {w : World} {S : Nat} {c : Array Value} {T : TypeId} (h : w.heap[S]? = some (.cells c T (0, 0))) : w.frozen? ⟨S, 0, none⟩ = false ∧ w.frozen? ⟨S, 1, none⟩ = false ∧ w.frozen? ⟨S, 2, none⟩ = false ∧ w.frozen? ⟨S, 3, none⟩ = false :=
  ⟨blk_free h, blk_free h, blk_free h, blk_free h⟩
theorem sig_set {w : World} {S : Nat} {x0 x1 x2 x3 : Value} {T : TypeId} {f : Nat × Nat} (h : w.heap[S]? = some (.cells #[x0, x1, x2, x3] T f)) (y0 y1 y2 y3 : Value) :
    ((((w.setCell ⟨S, 0, none⟩ y0).setCell ⟨S, 1, none⟩ y1).setCell ⟨S, 2, none⟩ y2).setCell ⟨S, 3, none⟩ y3).heap[S]? = some (.cells #[y0, y1, y2, y3] T f) := by
  have := blk_set (i := 3) (blk_set (i := 2) (blk_set (i := 1) (blk_set (i := 0) h y0) y1) y2) y3
  rw [this]
  simp
theorem below_set4 {w u : World} {N B : Nat} (h : Below N u w) (hB : N ≤ B) (a b c d : Value) :
    Below N u ((((w.setCell ⟨B, 0, none⟩ a).setCell ⟨B, 1, none⟩ b).setCell ⟨B, 2, none⟩ c).setCell ⟨B, 3, none⟩ d) := (((h.setCell hB _).setCell hB _).setCell hB _).setCell hB _
set_option maxHeartbeats 1600000 in
theorem make_bad (a : Option Addr) (m c : Nat) (sz cut : Int) (w : World) (hm : m ≤ 9223372036854775807) (hf : fitsE sz cut m ≠ 0) :
    Calls Tryd.prog 28 #[.slice a m c, .int .i64 sz, .int .i64 cut] w fun e w' => e = .returned (.tuple #[sigV 0 0 0 (.slice none 0 0), .int .i64 (fitsE sz cut m)]) ∧ Below w.heap.size w w' := by
  have HC := hide (fun u : World => fits_c u sz cut (m : Int) (.slice none 0 0) rfl (by omega))
  have hb : (fitsE sz cut m != 0) = true := by simpa using hf
  generalize fitsE sz cut m = z at *
  clear hf hm
  unfold sigV at HC
  have HR := hide (heap_2a w (.cells #[.int .i64 0, .int .i64 0, .int .i64 0, .slice none 0 0] 49) (.cells #[.int .i64 sz, .int .i64 cut, .int .i64 (m : Int), .slice none 0 0] 49))
  have HB := hide (((Below.refl w.heap.size w).alloc (Nat.le_refl _) (.cells #[.int .i64 0, .int .i64 0, .int .i64 0, .slice none 0 0] 49)).alloc (by simp) (.cells #[.int .i64 sz, .int .i64 cut, .int .i64 (m : Int), .slice none 0 0] 49))
  go_enter Tryd.func28, Tryd.ntmps28
  go_wp2_with fail
  generalize ((w.alloc (.cells #[.int .i64 0, .int .i64 0, .int .i64 0, .slice none 0 0] 49)).alloc (.cells #[.int .i64 sz, .int .i64 cut, .int .i64 (m : Int), .slice none 0 0] 49)) = w1 at *
  refine (HC.out _).mono ?_
  rintro e w2 ⟨rfl, hb2⟩
  have HR2 := hide (below_blk hb2 (heap_lt HR.out) HR.out)
  have HB2 := hide (keepB hb2 (Nat.le_refl _) HB.out)
  clear hb2 HR HB HC
  obtain ⟨r0, r1, r2, r3⟩ := sig_cells HR2.out
  obtain ⟨f0, f1, f2, f3⟩ := sig_free HR2.out
  go_wp2
  have e := sig_set HR2.out (.int .i64 0) (.int .i64 0) (.int .i64 0) (.slice none 0 0)
  refine bodyPost_ret (v := .tuple #[sigV 0 0 0 (.slice none 0 0), .int .i64 z]) ?_ rfl ⟨rfl, below_set4 HB2.out (Nat.le_refl _) _ _ _ _⟩
  have hl := load_sig e
  simp [results, Tryd.results28, asAddr, hl]
theorem cnt_lt {m s i : Int} (hs : 1 ≤ s) (hm : 0 ≤ m) (hi0 : 0 ≤ i) (hi : i < cntZ m s) : i * s < m := by
  unfold cntZ at hi
  rw [if_neg (by omega)] at hi
  have h1 := Int.mul_ediv_add_emod m s
  have h2 := Int.emod_nonneg m (show s ≠ 0 by omega)
  generalize m / s = q at *
  generalize m % s = r at *
  by_cases h : i < q
  · have h3 : (i + 1) * s ≤ q * s := Int.mul_le_mul_of_nonneg_right (by omega) (by omega)
    rw [Int.add_mul, Int.one_mul] at h3
    rw [Int.mul_comm s q] at h1
    omega
  · split at hi
    · have : i = q := by omega
      subst this
      rw [Int.mul_comm s i] at h1
      omega
    · omega
theorem slice_lh (u : World) (a : Option Addr) (m c p n : Nat) (x y : Int) (hx : x = (p : Int)) (hy : y = (p : Int) + (n : Int)) (hn : 0 < n) (h : p + n ≤ m) (hc : m ≤ c) :
    Sem.run Tryd.prog (Instr.slice 22 (.slice a m c) (some (.int .i64 x)) (some (.int .i64 y)) none) u = .ok (.slice (a.map (·.add p)) n (c - p)) u := by
  subst hx hy
  rw [run_slice_lh u 22 a m c und_bs .i64 .i64 _ _ (by omega) (by omega) (by omega), elem_bs, size_u8]
  simp only [Result.andThen, sliced, Nat.mul_one]
  rw [if_neg (by omega), show ((p : Int)).toNat = p by omega, show ((p : Int) + (n : Int)).toNat = p + n by omega, show p + n - p = n by omega]
theorem src_piece {w : World} {a : Option Addr} {m : Nat} {D : List Nat} (h : SrcB w a m D) (p s n : Nat) (hn : n = min s (m - p)) (hp : p ≤ m) : SrcB w (a.map (·.add p)) n ((D.drop p).take s) := by
  obtain ⟨hl, h8, b, off, ha, hc⟩ := h
  refine ⟨by rw [List.length_take, List.length_drop]; omega, all8_take (all8_drop h8 _) _, b, off + p, fun h0 => ?_, fun j hj => ?_⟩
  · rw [ha (by omega)]; simp [Addr.add_mid]
  · rw [Nat.add_assoc, hc (p + j) (by omega)]
    simp only [List.getD, List.getElem?_take_of_lt (show j < s by omega), List.getElem?_drop]
theorem _root_.Go.Proofs.YtifepgigkmhdaaaDoor.Ke.MB.drew {q : IntKind} {e T : TypeId} {w0 : World} {R S N : Nat} {rc : Obj} {sz cut len : Int} {v vo : Value} {bs : List Blk} {u : World} (H : MB q e T w0 R S N rc sz cut len v vo bs u) : MB q e T w0 R S N rc sz cut len v vo bs u.drew :=
  ⟨H.below.drew, H.hS, H.SN, H.RN, H.RS, H.Nu, H.sig, H.res, H.own⟩
theorem own_some {q : IntKind} {e : TypeId} {w : World} {N : Nat} {v : Value} {bs : List Blk} (h : OwnBks q e w N v bs) (hb : bs ≠ []) : ∃ g n cap, v = .slice (some ⟨g, 0, none⟩) n cap := by
  rcases h.2.2 with ⟨_, hn⟩ | ⟨g, cap, cur, rfl, _⟩
  · exact absurd (List.length_eq_zero_iff.1 hn) hb
  · exact ⟨_, _, _, rfl⟩
set_option maxHeartbeats 3200000 in
theorem make_ok (a : Option Addr) (m c : Nat) (D : List Nat) (s k n : Nat) (w : World) (hs : SrcB w a m D) (hc : m ≤ c) (hcm : c ≤ 9223372036854775807) (hf : fitsE (s : Int) (k : Int) m = 0) (hn : cntZ m s = (n : Int)) (hT : Tbl w) (hF : Fst w) :
    Calls Tryd.prog 28 #[.slice a m c, .int .i64 (s : Int), .int .i64 (k : Int)] w fun e w' => ∃ v, e = .returned (.tuple #[sigV s k m v, .int .i64 0]) ∧ OwnBks .u32 81 w' (w.heap.size + 2) v (mkB D s k n) ∧ Below w.heap.size w w' := by
  have hz := fitsE_zero hf
  have hm : m ≤ 16777216 := by omega
  have hs1 : 1 ≤ s := by omega
  have hs2 : s ≤ 4096 := by omega
  have hk : k ≤ 32 := by omega
  have hn4 : n ≤ 4096 := by omega
  have HC := hide (fits_c ((w.alloc (.cells #[.int .i64 0, .int .i64 0, .int .i64 0, .slice none 0 0] 49)).alloc (.cells #[.int .i64 (s : Int), .int .i64 (k : Int), .int .i64 (m : Int), .slice none 0 0] 49)) s k (m : Int) (.slice none 0 0) rfl (by omega))
  rw [hf] at HC
  have HN := hide (fun u : World => count_c u (m : Int) (s : Int) (by omega))
  rw [hn] at HN
  have HS := hide hs
  have HT := hide hT
  have HF := hide hF
  have Hn := hide hn
  have hlD := hs.1
  unfold sigV at HC
  clear hf hz hs hT hF hn
  have H0 : Hid (MB .u32 81 49 w w.heap.size (w.heap.size + 1) (w.heap.size + 2) (.cells #[.int .i64 0, .int .i64 0, .int .i64 0, .slice none 0 0] 49) s k m (.slice none 0 0) (.slice none 0 0) [] ((w.alloc (.cells #[.int .i64 0, .int .i64 0, .int .i64 0, .slice none 0 0] 49)).alloc (.cells #[.int .i64 (s : Int), .int .i64 (k : Int), .int .i64 (m : Int), .slice none 0 0] 49))) :=
    hide ⟨((Below.refl w.heap.size w).alloc (Nat.le_refl _) _).alloc (by simp) _, by omega, by omega, by omega, by omega, by simp, heap_2b w _ _, heap_2a w _ _, OwnBks.nil _ _ _ _⟩
  go_enter Tryd.func28, Tryd.ntmps28
  go_wp2_with fail
  generalize ((w.alloc (.cells #[.int .i64 0, .int .i64 0, .int .i64 0, .slice none 0 0] 49)).alloc (.cells #[.int .i64 (s : Int), .int .i64 (k : Int), .int .i64 (m : Int), .slice none 0 0] 49)) = w1 at *
  refine HC.out.mono ?_
  rintro e w2 ⟨rfl, hb2⟩
  have H2 := hide (H0.out.up hb2)
  clear hb2 HC H0
  go_wp2_with fail
  refine (HN.out _).mono ?_
  rintro e w2 ⟨rfl, rfl⟩
  clear HN
  go_wp2_with fail
  go_loopw [29] (fun j wr => ∃ i v, j = .int .i64 ((i : Nat) : Int) ∧ i ≤ n ∧ MB .u32 81 49 w w.heap.size (w.heap.size + 1) (w.heap.size + 2) (.cells #[.int .i64 0, .int .i64 0, .int .i64 0, .slice none 0 0] 49) s k m v v (mkB D s k i) wr) (fun j _ => n - (intOf j).toNat)
  case atStart => exact ⟨0, _, rfl, Nat.zero_le _, H2.out⟩
  case round =>
    clear H2
    obtain ⟨i, v, rfl, hi, hM⟩ := hrel
    have HM := hide hM
    clear hM
    by_cases hlt : i < n
    · obtain ⟨r0, r1, r2, r3⟩ := HM.out.sig.cells
      have him : (i : Int) * (s : Int) < (m : Int) := cnt_lt (by omega) (by omega) (by omega) (by rw [Hn.out]; omega)
      obtain ⟨p, hp⟩ : ∃ p : Nat, p = i * s := ⟨_, rfl⟩
      have hpi : (i : Int) * (s : Int) = (p : Int) := by rw [hp]; simp
      have HSp := hide (span_c wr s k m i v (by omega) (by omega) (by omega) (by omega) (by omega) (by omega))
      rw [hpi] at HSp him
      obtain ⟨q, hq⟩ : ∃ q : Nat, q = min s (m - p) := ⟨_, rfl⟩
      have hqi : min (s : Int) ((m : Int) - (p : Int)) = (q : Int) := by omega
      rw [hqi] at HSp
      unfold sigV at HSp
      have hpc : piece D s i = (D.drop p).take s := by rw [hp]; rfl
      have HP := hide hpc
      clear hpi hpc hp
      have hsl : ∀ u : World, _ := fun u => slice_lh u a m c p q (p : Int) ((p : Int) + (q : Int)) rfl rfl (by omega) (by omega) hc
      have hpq : p + q ≤ 16777216 := by omega
      have hcp : q ≤ c - p := by omega
      have hq1 : q ≤ 4096 := by omega
      have hq2 : 0 < q := by omega
      have Hq := hide hq
      clear hq
      have d1 : decide ((i : Int) < (n : Int)) = true := by simpa using hlt
      go_wp2_with fail
      refine HSp.out.mono ?_
      rintro e w3 ⟨rfl, hb3⟩
      have HM3 := hide (HM.out.up hb3)
      clear hb3 HSp HM r0 r1 r2 r3
      go_wp2_with fail
      have HT3 : Hid (∀ u, Below w.heap.size w u → Tbl u ∧ Fst u ∧ SrcB u (a.map (·.add p)) q (piece D s i)) := hide (fun u hu => ⟨tbl_keep HT.out hu (Nat.le_refl _), fst_keep HF.out hu (Nat.le_refl _), by rw [HP.out]; exact src_piece (HS.out.below hu) p s q Hq.out (by omega)⟩)
      have Hmk := hide (mkB_snoc D s k i)
      have hbl : (mkB D s k i).length ≤ 1000000000 := by rw [mkB_length]; omega
      obtain ⟨aP, haP⟩ : ∃ aP, aP = a.map (·.add p) := ⟨_, rfl⟩
      rw [← haP] at HT3 ⊢
      clear haP hsl HP
      generalize piece D s i = L at *
      have hxok := blkOf_ok k hk L
      obtain ⟨x, hx⟩ : ∃ x, x = blkOf k L := ⟨_, rfl⟩
      rw [← hx] at hxok Hmk
      have Hxb : Hid (Tryd.prog.built 81 [(0, .int .u32 ((wkN L : Nat) : Int)), (1, .agg (u8s (cutL k (sha L))))] = some (blkC .u32 x).toArray) := hide (by rw [hx]; exact built_blk _ _ (Su.cutL_length k _ hk (sha_len L)))
      clear hx
      generalize mkB D s k i = bs at *
      have hCnt : Cnt (k : Int) k := by unfold Cnt; omega
      refine wp_region_h (MT .u32 81 49 w w.heap.size (w.heap.size + 1) (w.heap.size + 2) (.cells #[.int .i64 0, .int .i64 0, .int .i64 0, .slice none 0 0] 49) s k m v bs x)
        [some (some (.pointer (some ⟨w.heap.size + 1, 3, none⟩))), some (some v), some (some (.slice aP q (c - p))), some (some (.agg #[.int .i64 (q : Int), .int .u16 (Wm.lo (ints L)), .int .u16 (Wm.hi (ints L))])), some (some (.int .u32 ((wkN L : Nat) : Int))), some (some (.int .i64 (k : Int))), some (some (.slice aP q (c - p))), some (some (.agg (u8s (cutL k (sha L))))), some (some (.agg (blkC .u32 x).toArray)), none, none, some (some (.pointer (some ⟨w.heap.size + 1, 3, none⟩))), none]
        [3, 1, 3, 3, 3, 3, 3, 3, 3, 0, 0, 3, 0] (by kernel_rfl) (by kernel_rfl) [9, 10, 12] [9, 10, 12] rfl rfl (by kernel_rfl) (by kernel_rfl) HM3.out.drew ?_
      refine gF_step (by rfl) (fun h u K hL hT hK => ?_) ?_
      · go_simp
        exact hK _ hT
      simp only [Act.put, List.setIfInBounds_toArray, List.set_cons_zero, List.set_cons_succ]
      refine gF_step (by rfl) (fun h u K hL hT hK => ?_) ?_
      · obtain ⟨r0, r1, r2, r3⟩ := (hT.sig hL).cells
        go_simp
        exact hK _ hT
      simp only [Act.put, List.setIfInBounds_toArray, List.set_cons_zero, List.set_cons_succ]
      refine gF_step (by rfl) (fun h u K hL hT hK => ?_) ?_
      · go_simp
        exact hK _ hT
      simp only [Act.put, List.setIfInBounds_toArray, List.set_cons_zero, List.set_cons_succ]
      refine gF_step (by rfl) (fun h u K hL hT hK => ?_) ?_
      · go_simp
        go_at_call 34
        (with_reducible refine Calls.mono (weak_b aP q (c - p) L u (HT3.out u hT.base).2.2 (by omega)) ?_)
        rintro e u2 ⟨rfl, hu⟩
        exact hK _ (hT.up hu)
      simp only [Act.put, List.setIfInBounds_toArray, List.set_cons_zero, List.set_cons_succ]
      refine gF_step (by rfl) (fun h u K hL hT hK => ?_) ?_
      · go_simp
        go_at_call 35
        (with_reducible refine Calls.mono (value_b q L u) ?_)
        rintro e u2 ⟨rfl, hu⟩
        exact hK _ (hT.up hu)
      simp only [Act.put, List.setIfInBounds_toArray, List.set_cons_zero, List.set_cons_succ]
      refine gF_step (by rfl) (fun h u K hL hT hK => ?_) ?_
      · go_simp
        exact hK _ hT
      simp only [Act.put, List.setIfInBounds_toArray, List.set_cons_zero, List.set_cons_succ]
      refine gF_step (by rfl) (fun h u K hL hT hK => ?_) ?_
      · go_simp
        exact hK _ hT
      simp only [Act.put, List.setIfInBounds_toArray, List.set_cons_zero, List.set_cons_succ]
      refine gF_step (by rfl) (fun h u K hL hT hK => ?_) ?_
      · go_simp
        go_at_call 63
        (with_reducible refine Calls.mono (cut_b k k aP q (c - p) L u hCnt (HT3.out u hT.base).2.2 hcp (HT3.out u hT.base).1 (HT3.out u hT.base).2.1 (by omega)) ?_)
        rintro e u2 ⟨rfl, hu⟩
        exact hK _ (hT.up hu)
      simp only [Act.put, List.setIfInBounds_toArray, List.set_cons_zero, List.set_cons_succ]
      refine gF_step (by rfl) (fun h u K hL hT hK => ?_) ?_
      · exact kUpon_build_to 81 _ rfl [(0, .int .u32 ((wkN L : Nat) : Int)), (1, .agg (u8s (cutL k (sha L))))] rfl _ Hxb.out (hK _ hT)
      simp only [Act.put, List.setIfInBounds_toArray, List.set_cons_zero, List.set_cons_succ]
      refine gD_step (fun y => ∃ B, y = .slice (some ⟨B, 0, none⟩) 1 1) ⟨_, 0, rfl⟩ (by rfl) (fun u K hT hK => ?_) (fun y hy => ?_)
      · refine kUpon_slice_to 47 1 _ rfl [(0, blkV .u32 x)] rfl _ _ (one_blk u x hxok) (hK _ _ ⟨_, rfl⟩ ?_)
        exact ⟨MB.up hT (below_new _ _), _, rfl, _, _, heap_last _ _⟩
      obtain ⟨B, rfl⟩ := hy
      simp only [Act.put, List.setIfInBounds_toArray, List.set_cons_zero, List.set_cons_succ]
      refine gD_step (fun y => ∃ g n cap, y = .slice (some ⟨g, 0, none⟩) n cap) ⟨_, 0, 0, 0, rfl⟩ (by rfl) (fun u K hT hK => ?_) (fun y hy => ?_)
      · obtain ⟨hM, B', e, T', f', hB⟩ := hT
        simp only [Value.slice.injEq, Option.some.injEq, Addr.mk.injEq, and_true] at e
        subst e
        obtain ⟨v', u', hrun, ho, hg, -⟩ := append_bk .u32 47 81 _ 36 Tryd.underlying47 info_blk (by omega) (by kernel_rfl) u _ v _ bs B x T' f' 1 hM.own hM.Nu hxok hB hbl
        obtain ⟨g', n', cap', hv'⟩ := own_some ho (by simp)
        refine kUpon_append 47 (.tmp 45) (.tmp 53) rfl hrun (hK _ _ ⟨g', n', cap', hv'⟩ ?_)
        exact hM.append hg ho
      obtain ⟨g', n', cap', rfl⟩ := hy
      simp only [Act.put, List.setIfInBounds_toArray, List.set_cons_zero, List.set_cons_succ]
      refine gF_step (by rfl) (fun h u K hL hT hK => ?_) ?_
      · go_simp
        exact hK _ hT
      simp only [Act.put, List.setIfInBounds_toArray, List.set_cons_zero, List.set_cons_succ]
      refine gE_step (v := undef) (by rfl) (fun u K hT hK => ?_) ?_
      · have hM : MB .u32 81 49 w w.heap.size (w.heap.size + 1) (w.heap.size + 2) (.cells #[.int .i64 0, .int .i64 0, .int .i64 0, .slice none 0 0] 49) s k m v (.slice (some ⟨g', 0, none⟩) n' cap') (bs ++ [x]) u := hT
        obtain ⟨r0, r1, r2, r3⟩ := hM.sig.cells
        have f3 := hM.sig.free 3
        go_simp
        exact hK _ hM.store
      simp only [Act.put, List.setIfInBounds_toArray, List.set_cons_zero, List.set_cons_succ]
      refine g_nil (fun w4 hT4 => ?_)
      have HM4 : Hid (MB .u32 81 49 w w.heap.size (w.heap.size + 1) (w.heap.size + 2) (.cells #[.int .i64 0, .int .i64 0, .int .i64 0, .slice none 0 0] 49) s k m (.slice (some ⟨g', 0, none⟩) n' cap') (.slice (some ⟨g', 0, none⟩) n' cap') (bs ++ [x]) w4) := hide hT4
      rw [← Hmk.out] at HM4
      clear hT4 HM3 HT3
      go_wp2
      go_roundw
      case rel => exact ⟨i + 1, _, by go_num, by omega, HM4.out⟩
      case measure => simp [intOf]; omega
    · obtain rfl : i = n := by omega
      obtain ⟨av, cv, rfl⟩ : ∃ av cv, v = .slice av (mkB D s k i).length cv := by
        obtain ⟨_, av, cv, h, _⟩ := HM.out.own.is
        exact ⟨av, cv, h⟩
      have d1 : decide ((i : Int) < (i : Int)) = false := by simp
      obtain ⟨r0, r1, r2, r3⟩ := HM.out.sig.cells
      obtain ⟨s0, s1, s2, s3⟩ := sig_cells HM.out.res
      obtain ⟨nv, hnv⟩ : ∃ nv, nv = (mkB D s k i).length := ⟨_, rfl⟩
      rw [← hnv] at HM r3
      clear hnv
      obtain ⟨f0, f1, f2, f3⟩ := sig_free HM.out.res
      have hneq : w.heap.size + 1 ≠ w.heap.size := by omega
      go_wp2
      have e := sig_set HM.out.res (.int .i64 (s : Int)) (.int .i64 (k : Int)) (.int .i64 (m : Int)) (.slice av nv cv)
      have hg := grown_setCell (grown_setCell (grown_setCell (grown_setCell (World.grownBy.refl wr (some w.heap.size)) 0 (.int .i64 (s : Int))) 1 (.int .i64 (k : Int))) 2 (.int .i64 (m : Int))) 3 (.slice av nv cv)
      have ho := HM.out.own.kept hg (fun e => by have := (HM.out.own.own _ e).1; omega)
      refine bodyPost_ret (v := .tuple #[sigV s k m (.slice av nv cv), .int .i64 0]) ?_ rfl ⟨.slice av nv cv, rfl, ho, below_set4 HM.out.below (Nat.le_refl _) _ _ _ _⟩
      have hl := load_sig e
      simp [results, Tryd.results28, asAddr, hl]
end Go.Proofs.YtifepgigkmhdaaaDoor.Kf
/- block.Signature's Index. -/
namespace Go.Proofs.YtifepgigkmhdaaaDoor.Kn
set_option linter.unusedVariables false
set_option linter.unusedSimpArgs false
set_option maxRecDepth 100000
open Go.ChangeShapes Go.WideShapes Go.ChangeAt Go.RowKit
open Go.Proofs.YtifepgigkmhdaaaDoor.Wu Go.Proofs.YtifepgigkmhdaaaDoor.Sm Go.Proofs.YtifepgigkmhdaaaDoor.Sh Go.Proofs.YtifepgigkmhdaaaDoor.Ba Go.Proofs.YtifepgigkmhdaaaDoor.Bp Go.Proofs.YtifepgigkmhdaaaDoor.Ka Go.Proofs.YtifepgigkmhdaaaDoor.Kb Go.Proofs.YtifepgigkmhdaaaDoor.Kc Go.Proofs.YtifepgigkmhdaaaDoor.Kd Go.Proofs.YtifepgigkmhdaaaDoor.Ke Go.Proofs.YtifepgigkmhdaaaDoor.Rk Go.Proofs.YtifepgigkmhdaaaDoor.Rh Go.Proofs.YtifepgigkmhdaaaDoor.Rw Go.Proofs.YtifepgigkmhdaaaDoor.Rb1 Go.Proofs.YtifepgigkmhdaaaDoor.Kg Go.Proofs.YtifepgigkmhdaaaDoor.Kh Go.Proofs.YtifepgigkmhdaaaDoor.Ki Go.Proofs.YtifepgigkmhdaaaDoor.Kj Go.Proofs.YtifepgigkmhdaaaDoor.Km Go.Proofs.YtifepgigkmhdaaaDoor.Kk Go.Proofs.YtifepgigkmhdaaaDoor.Kl
attribute [local go_sem] kUpon_value kUpon_skip kUpon_enter
/-- What stays while the table grows: the signature in S, the table's own cells behind it. -/
structure Fix (w0 : World) (k : Nat) (sg : Array Value) (u : World) : Prop where
  below : Below w0.heap.size w0 u
  sig : u.heap[w0.heap.size]? = some (.cells sg 49 (0, 0))
  tbl : u.heap[w0.heap.size + 1 + 1]? = some (.cells #[.int .i64 (k : Int), .map (some (w0.heap.size + 1))] 138 (0, 0))
  size : w0.heap.size + 3 ≤ u.heap.size
theorem Fix.up {w0 : World} {k : Nat} {sg : Array Value} {u u' : World} (h : Fix w0 k sg u) (hb : Below u.heap.size u u') : Fix w0 k sg u' :=
  ⟨keepB hb (Nat.le_refl _) h.below, below_blk hb (heap_lt h.sig) h.sig, below_blk hb (heap_lt h.tbl) h.tbl, Nat.le_trans h.size hb.size⟩
theorem Fix.grown {w0 : World} {k : Nat} {sg : Array Value} {u u' : World} {row : Option Nat} (h : Fix w0 k sg u) (hg : u.grownBy u' row) (hr : ∀ g, row = some g → g = w0.heap.size + 1 ∨ w0.heap.size + 3 ≤ g) : Fix w0 k sg u' :=
  ⟨h.below.grown hg h.below.size (fun g hgr => by rcases hr g hgr with h | h <;> omega), (hg.block _ (heap_lt h.sig) (fun e => by rcases hr _ e.symm with h | h <;> omega)).trans h.sig, (hg.block _ (heap_lt h.tbl) (fun e => by rcases hr _ e.symm with h | h <;> omega)).trans h.tbl, Nat.le_trans h.size hg.size⟩
/-- The stages of the round's region. -/
def IT (w0 : World) (k : Nat) (sg : Array Value) (l : List (Value × Value)) (G : Nat → List Plc) (B x : Nat) (b : Blk) (v0 : Value) (p : Plc) : List Value → World → Prop
  | [], u => Fix w0 k sg u ∧ Tab u (w0.heap.size + 1) (w0.heap.size + 3) l G ∧ u.heap[B]? = some (.cells (blkC .u32 b).toArray 81 (0, 0)) ∧ OwnP u (w0.heap.size + 3) v0 (G x)
  | [c], u => (Fix w0 k sg u ∧ Tab u (w0.heap.size + 1) (w0.heap.size + 3) l G ∧ u.heap[B]? = some (.cells (blkC .u32 b).toArray 81 (0, 0)) ∧ OwnP u (w0.heap.size + 3) v0 (G x)) ∧ ∃ C, c = .slice (some ⟨C, 0, none⟩) 1 1 ∧ ∃ T f, u.heap[C]? = some (.cells (plcC p).toArray T f)
  | [_, v], u => Fix w0 k sg u ∧ Tab2 u (w0.heap.size + 1) (w0.heap.size + 3) l G x v (G x ++ [p]) ∧ u.heap[B]? = some (.cells (blkC .u32 b).toArray 81 (0, 0))
  | [_, _, _], u => Fix w0 k sg u ∧ ∃ l', l'.length ≤ l.length + 1 ∧ Tab u (w0.heap.size + 1) (w0.heap.size + 3) l' (fun y => if y = x then G x ++ [p] else G y)
  | _, _ => False
section
variable {w0 : World} {k : Nat} {sg : Array Value} {l : List (Value × Value)} {G : Nat → List Plc} {B x : Nat} {b : Blk} {v0 : Value} {p : Plc}
theorem IT.up {h : List Value} {u u' : World} (H : IT w0 k sg l G B x b v0 p h u) (hb : Below u.heap.size u u') : IT w0 k sg l G B x b v0 p h u' := by
  match h, H with
  | [], ⟨h1, h2, h3, h4⟩ => exact ⟨h1.up hb, h2.below hb, below_blk hb (heap_lt h3) h3, h4.below hb⟩
  | [_], ⟨⟨h1, h2, h3, h4⟩, C, h5, T, f, h6⟩ => exact ⟨⟨h1.up hb, h2.below hb, below_blk hb (heap_lt h3) h3, h4.below hb⟩, C, h5, T, f, below_blk hb (heap_lt h6) h6⟩
  | [_, _], ⟨h1, h2, h3⟩ => exact ⟨h1.up hb, h2.below hb, below_blk hb (heap_lt h3) h3⟩
  | [_, _, _], ⟨h1, l', h2, h3⟩ => exact ⟨h1.up hb, l', h2, h3.below hb⟩
theorem IT.fix {h : List Value} {u : World} (H : IT w0 k sg l G B x b v0 p h u) : Fix w0 k sg u := by
  match h, H with
  | [], H => exact H.1
  | [_], H => exact H.1.1
  | [_, _], H => exact H.1
  | [_, _, _], H => exact H.1
theorem IT.blk {h : List Value} {u : World} (H : IT w0 k sg l G B x b v0 p h u) (hl : h.length ≤ 2) : u.heap[B]? = some (.cells (blkC .u32 b).toArray 81 (0, 0)) := by
  match h, H with
  | [], H => exact H.2.2.1
  | [_], H => exact H.1.2.2.1
  | [_, _], H => exact H.2.2
  | [_, _, _], H => simp at hl
theorem IT.tab {h : List Value} {u : World} (H : IT w0 k sg l G B x b v0 p h u) (hl : h.length ≤ 1) : Tab u (w0.heap.size + 1) (w0.heap.size + 3) l G := by
  match h, H with
  | [], H => exact H.2.1
  | [_], H => exact H.1.2.1
  | [_, _], H => simp at hl
  | [_, _, _], H => simp at hl
end
theorem IT.drew {w0 : World} {k : Nat} {sg : Array Value} {l : List (Value × Value)} {G : Nat → List Plc} {B x : Nat} {b : Blk} {v0 : Value} {p : Plc} {u : World} (H : IT w0 k sg l G B x b v0 p [] u) : IT w0 k sg l G B x b v0 p [] u.drew := by
  obtain ⟨h1, h2, h3, h4⟩ := H
  exact ⟨⟨h1.below.drew, h1.sig, h1.tbl, h1.size⟩, ⟨h2.map, h2.low, h2.entry, h2.absent, h2.apart⟩, h3, h4⟩
theorem _root_.Go.Proofs.YtifepgigkmhdaaaDoor.Kk.Tab.kept {w w' : World} {M N k : Nat} {l : List (Value × Value)} {G : Nat → List Plc} (h : Tab w M N l G) (hg : w.grownBy w' (some k)) (hp : ∀ p ∈ l, p.2.ownBlock = none ∨ p.2.ownBlock ≠ some k) (hk : M ≠ k) : Tab w' M N l G :=
  ⟨h.map.same (hg.block M h.map.lt (fun e => hk (by injection e))), h.low, fun p hp' => by obtain ⟨x, h1, h2, h3⟩ := h.entry p hp'; exact ⟨x, h1, h2, h3.kept hg (hp p hp')⟩, h.absent, h.apart⟩
theorem _root_.Go.Proofs.YtifepgigkmhdaaaDoor.Kk.Tab.look {w : World} {M N : Nat} {l : List (Value × Value)} {G : Nat → List Plc} (h : Tab w M N l G) {x : Nat} (hx : x < 4294967296) {v : Value} (hv : ∀ u : World, u.heap[M]? = w.heap[M]? → (Instr.lookup 136 (.map (some M)) (.int .u32 (x : Int)) false).run Tryd.prog u = .ok v u)
    (u : World) (hu : MapL Tryd.prog 68 u M l) : (Instr.lookup 136 (.map (some M)) (.int .u32 (x : Int)) false).run Tryd.prog u = .ok v u := by
  have h0 := hv w rfl
  rcases h.map.look (t := 136) false law_u32 Tryd.underlying136 (zero_sl w) (key_u32 hx) with ⟨h1, hno⟩ | ⟨v1, hv1, h1⟩
  · rcases hu.look (t := 136) false law_u32 Tryd.underlying136 (zero_sl u) (key_u32 hx) with ⟨h2, _⟩ | ⟨v2, hv2, _⟩
    · rw [h1] at h0; injection h0 with h0; rw [h2, ← h0]
    · exact absurd rfl (hno _ hv2)
  · rcases hu.look (t := 136) false law_u32 Tryd.underlying136 (zero_sl u) (key_u32 hx) with ⟨h2, hno⟩ | ⟨v2, hv2, h2⟩
    · exact absurd rfl (hno _ hv1)
    · rw [h1] at h0; injection h0 with h0; rw [h2, hu.one hv2 hv1]; rw [← h0]
theorem ownP_some {w : World} {N : Nat} {v : Value} {ps : List Plc} (h : OwnP w N v ps) (hb : ps ≠ []) : ∃ g n cap, v = .slice (some ⟨g, 0, none⟩) n cap := by
  rcases h.2.2 with ⟨_, hn⟩ | ⟨g, cap, cur, rfl, _⟩
  · exact absurd (List.length_eq_zero_iff.1 hn) hb
  · exact ⟨_, _, _, rfl⟩
/-- What Index answers. -/
def IndexP (w : World) (k : Nat) (s l : Nat) (bs : List Blk) (e : Ending) (w' : World) : Prop :=
  e = .returned (.pointer (some ⟨w.heap.size + 1 + 1, 0, none⟩)) ∧ w'.heap[w.heap.size + 1 + 1]? = some (.cells #[.int .i64 (k : Int), .map (some (w.heap.size + 1))] 138 (0, 0)) ∧ (∃ es, Tab w' (w.heap.size + 1) (w.heap.size + 3) es (grp s l bs bs.length)) ∧ Below w.heap.size w w'
set_option maxHeartbeats 3200000 in
theorem index_c (w : World) (s k l m c : Nat) (a : Option Addr) (bs : List Blk) (hb : IsBks .u32 w (.slice a m c) bs) (hm : bs.length = m) (hch : checkE s k l bs = 0) :
    Calls Tryd.prog 29 #[sigV s k l (.slice a m c)] w (IndexP w k s l bs) := by
  have hf : fitsE s k l = 0 := by
    unfold checkE at hch
    split at hch
    · exact hch
    · rename_i h; simpa using h
  have hz := fitsE_zero hf
  have hmn : (m : Int) = cntZ l s := by
    unfold checkE at hch
    rw [if_neg (by simpa using hf)] at hch
    split at hch
    · cases hch
    · rename_i h; rw [← hm]; omega
  have h4 : m ≤ 4096 := by omega
  have Hmn := hide hmn
  have hs1 : 1 ≤ s := by omega
  have hs2 : s ≤ 4096 := by omega
  have hk : k ≤ 32 := by omega
  have hl : l ≤ 16777216 := by omega
  have HC := hide (fun (u : World) (hu : Below w.heap.size w u) => check_c u s k l (.slice a m c) bs (hb.below hu) (by omega) (by omega))
  rw [hch] at HC
  obtain ⟨a', c', g, off, hv, hmc, hcm, ha, hat⟩ := hb.at
  rw [hm] at hv hmc ha
  injection hv with h1 h2 h3
  subst h1 h3
  have Hat := hide hat
  have HM := hide hm
  clear hat h2 hb hf hz hmn hch hm
  have H0 : Hid (Fix w k #[.int .i64 (s : Int), .int .i64 (k : Int), .int .i64 (l : Int), .slice a m c] (((w.alloc (.cells #[.int .i64 (s : Int), .int .i64 (k : Int), .int .i64 (l : Int), .slice a m c] 49)).alloc (.map #[] 0)).alloc (.cells #[.int .i64 (k : Int), .map (some (w.heap.size + 1))] 138)) ∧ Tab (((w.alloc (.cells #[.int .i64 (s : Int), .int .i64 (k : Int), .int .i64 (l : Int), .slice a m c] 49)).alloc (.map #[] 0)).alloc (.cells #[.int .i64 (k : Int), .map (some (w.heap.size + 1))] 138)) (w.heap.size + 1) (w.heap.size + 3) [] (fun _ => [])) := by
    have ht := (Tab.made (w.alloc (.cells #[.int .i64 (s : Int), .int .i64 (k : Int), .int .i64 (l : Int), .slice a m c] 49))).below (below_new _ (.cells #[.int .i64 (k : Int), .map (some (w.heap.size + 1))] 138))
    simp only [World.size_alloc] at ht
    refine hide ⟨⟨(((Below.refl w.heap.size w).alloc (Nat.le_refl _) _).alloc (by simp) _).alloc (by simp; omega) _, heap_old (heap_2a w _ _) _, heap_3c w _ _ _, by simp⟩, ht.raise rfl (by omega)⟩
  unfold sigV at HC ⊢
  go_enter Tryd.func29, Tryd.ntmps29
  have hmm := @run_makeMap Tryd.prog
  go_wp2_with fail
  clear hmm
  generalize (((w.alloc (.cells #[.int .i64 (s : Int), .int .i64 (k : Int), .int .i64 (l : Int), .slice a m c] 49)).alloc (.map #[] 0)).alloc (.cells #[.int .i64 (k : Int), .map (some (w.heap.size + 1))] 138)) = w1 at *
  (with_reducible refine Calls.mono (HC.out w1 H0.out.1.below) ?_)
  rintro e w2 ⟨rfl, hb2⟩
  have H2 : Hid (Fix w k #[.int .i64 (s : Int), .int .i64 (k : Int), .int .i64 (l : Int), .slice a m c] w2 ∧ Tab w2 (w.heap.size + 1) (w.heap.size + 3) [] (fun _ => [])) := hide ⟨H0.out.1.up hb2, H0.out.2.below hb2⟩
  clear hb2 H0 HC
  obtain ⟨c0, c1, c2, c3⟩ := Sig4.cells (T := 49) H2.out.1.sig
  go_wp2_with fail
  clear c0 c1 c2 c3
  go_loopw [20] (fun j wr => ∃ i es, j = .int .i64 ((i : Nat) : Int) ∧ i ≤ m ∧ es.length ≤ i ∧ Fix w k #[.int .i64 (s : Int), .int .i64 (k : Int), .int .i64 (l : Int), .slice a m c] wr ∧ Tab wr (w.heap.size + 1) (w.heap.size + 3) es (grp s l bs i)) (fun j _ => m - (intOf j).toNat)
  case atStart => exact ⟨0, [], rfl, Nat.zero_le _, Nat.zero_le _, H2.out.1, by rw [grp_zero]; exact H2.out.2⟩
  case round =>
    clear H2
    obtain ⟨i, es, rfl, hi, hes, hx, ht⟩ := hrel
    have HX := hide hx
    have HT := hide ht
    clear hx ht
    by_cases hlt : i < m
    · obtain ⟨b, hb⟩ : ∃ b, bs[i]? = some b := ⟨bs[i]'(by rw [HM.out]; exact hlt), by rw [List.getElem?_eq_getElem]⟩
      obtain ⟨hbok, hr0⟩ := Hat.out i b hb
      have HR := hide (fun u (hu : Below w.heap.size w u) => range_below hr0 hu)
      have ha1 := ha (by omega)
      subst ha1
      have Hb := hide hb
      have Hst := hide (grp_step s l bs i b hb)
      clear hr0 hb ha
      have d1 : decide ((i : Int) < (m : Int)) = true := by simpa using hlt
      have i1 : (0 : Int) ≤ (i : Int) := by omega
      have i2 : (i : Int) < (m : Int) := by omega
      have hsz : (blkC .u32 b).length = 33 := blkC_length hbok
      go_wp2_with (first
        | (refine wpList_load_part rfl 81 (.tmp 23) rfl g (off + i * 33) (blkC .u32 b) rfl (HR.out _ HX.out.below) _ Tryd.underlying81 rfl (by rw [hsz]; kernel_rfl) ?_)
        | (refine wpList_store_all rfl 81 (.tmp 5) (.tmp 24) rfl wr.heap.size (blkC .u32 b).toArray _ 81 rfl rfl (heap_last _ _) (by rw [List.size_toArray, hsz]; rfl) (by rw [List.size_toArray, hsz]; kernel_rfl) (all_oneCell_toArray (blkC_one _ _)) ?_))
      intro w5 H5 HG5
      refine of_hid ?_
      have hX1 := HX.out.up (below_new wr (.cells (blkC .u32 ⟨0, zeros 32⟩).toArray 81))
      have hT1 := HT.out.below (below_new wr (.cells (blkC .u32 ⟨0, zeros 32⟩).toArray 81))
      have hws := HX.out.size
      have hX5 : Fix w k #[.int .i64 (s : Int), .int .i64 (k : Int), .int .i64 (l : Int), .slice (some ⟨g, off, none⟩) m c] w5 := hX1.grown HG5.out (fun q hq => .inr (by injection hq with hq; omega))
      have hT5 := hT1.kept (k := wr.heap.size) HG5.out (fun p hp => by
        cases hbo : p.2.ownBlock with
        | none => exact .inl rfl
        | some q =>
          obtain ⟨y, _, _, h3⟩ := HT.out.entry p hp
          have := (h3.own q hbo).2
          exact .inr (fun e => by injection e with e; omega)) (by omega)
      obtain ⟨v0, hlk, hv, hal⟩ := HT.out.at hbok.1
      have hvb : v0.ownBlock ≠ some wr.heap.size := fun e => by have := (hv.own _ e).2; omega
      have hv5 := (hv.below (below_new wr (.cells (blkC .u32 ⟨0, zeros 32⟩).toArray 81))).kept HG5.out (.inr hvb)
      have HX5 := hide hX5
      have HT5 := hide hT5
      have Hv5 := hide hv5
      have Hv0 := hide hvb
      have Hal := hide hal
      have Hlk : Hid (∀ u : World, MapL Tryd.prog 68 u (w.heap.size + 1) es → (Instr.lookup 136 (.map (some (w.heap.size + 1))) (.int .u32 (b.w : Int)) false).run Tryd.prog u = .ok v0 u) := hide (HT.out.look hbok.1 hlk)
      clear hX1 hT1 hX5 hT5 hlk hv hal hvb hv5 HX HT HG5 HR
      generalize wr.heap.size = B at *
      obtain ⟨n, hn⟩ : ∃ n, n = min s (l - i * s) := ⟨_, rfl⟩
      have him : (i : Int) * (s : Int) < (l : Int) := Kf.cnt_lt (by omega) (by omega) (by omega) (by rw [← Hmn.out]; omega)
      have e0 : (i : Int) * (s : Int) = ((i * s : Nat) : Int) := by simp
      have HSp := hide (span_c w5 s k l i (.slice (some ⟨g, off, none⟩) m c) (by omega) (by omega) (by omega) (by omega) (by omega) (by omega))
      have hni : min (s : Int) ((l : Int) - (i : Int) * (s : Int)) = (n : Int) := by rw [hn, e0]; omega
      rw [hni] at HSp
      rw [← hn] at Hst
      unfold sigV at HSp
      clear hni hn him e0
      obtain ⟨c0, c1, c2, c3⟩ := Sig4.cells (T := 49) HX5.out.sig
      go_wp2_with fail
      refine HSp.out.mono ?_
      rintro e w6 ⟨rfl, hb6⟩
      have H0 : Hid (IT w k #[.int .i64 (s : Int), .int .i64 (k : Int), .int .i64 (l : Int), .slice (some ⟨g, off, none⟩) m c] es (grp s l bs i) B b.w b v0 ⟨i, n, b⟩ [] w6) := hide ⟨HX5.out.up hb6, HT5.out.below hb6, below_blk hb6 (heap_lt H5.out) H5.out, Hv5.out.below hb6⟩
      clear hb6 HSp HX5 HT5 Hv5 H5 c0 c1 c2 c3
      go_wp2_with fail
      refine wp_region_h (IT w k #[.int .i64 (s : Int), .int .i64 (k : Int), .int .i64 (l : Int), .slice (some ⟨g, off, none⟩) m c] es (grp s l bs i) B b.w b v0 ⟨i, n, b⟩)
        [some (some (.pointer (some ⟨w.heap.size + 1 + 1, 0, none⟩))), some (some (.pointer (some ⟨w.heap.size + 1 + 1, 0, none⟩))), some (some (.pointer (some ⟨w.heap.size + 1 + 1, 1, none⟩))), some (some (.map (some (w.heap.size + 1)))), some (some (.pointer (some ⟨B, 0, none⟩))), some (some (.int .u32 (b.w : Int))), some (some (.pointer (some ⟨w.heap.size + 1 + 1, 0, none⟩))), some (some (.pointer (some ⟨w.heap.size + 1 + 1, 0, none⟩))), some (some (.pointer (some ⟨w.heap.size + 1 + 1, 1, none⟩))), some (some (.map (some (w.heap.size + 1)))), some (some (.pointer (some ⟨B, 0, none⟩))), some (some (.int .u32 (b.w : Int))), some (some v0), some (some (.int .i64 (i : Int))), some (some (.int .i64 (n : Int))), some (some (blkV .u32 b)), some (some (.agg (plcC ⟨i, n, b⟩).toArray)), none, none, none] [3, 3, 3, 3, 3, 2, 3, 3, 3, 3, 3, 2, 1, 3, 3, 2, 3, 0, 0, 0] (by kernel_rfl) (by kernel_rfl) [17, 18, 19] [17, 18, 19] rfl rfl (by kernel_rfl) (by kernel_rfl) (IT.drew H0.out) ?_
      refine gF_step (by rfl) (fun h u K hL hT hK => ?_) ?_
      · go_simp
        exact hK _ hT
      simp only [Act.put, List.setIfInBounds_toArray, List.set_cons_zero, List.set_cons_succ]
      refine gF_step (by rfl) (fun h u K hL hT hK => ?_) ?_
      · go_simp
        exact hK _ hT
      simp only [Act.put, List.setIfInBounds_toArray, List.set_cons_zero, List.set_cons_succ]
      refine gF_step (by rfl) (fun h u K hL hT hK => ?_) ?_
      · go_simp
        exact hK _ hT
      simp only [Act.put, List.setIfInBounds_toArray, List.set_cons_zero, List.set_cons_succ]
      refine gF_step (by rfl) (fun h u K hL hT hK => ?_) ?_
      · have c1 : u.cell? ⟨w.heap.size + 1 + 1, 1, none⟩ = some (.map (some (w.heap.size + 1))) := blk_cell hT.fix.tbl rfl
        go_simp
        exact hK _ hT
      simp only [Act.put, List.setIfInBounds_toArray, List.set_cons_zero, List.set_cons_succ]
      refine gF_step (by rfl) (fun h u K hL hT hK => ?_) ?_
      · go_simp
        exact hK _ hT
      simp only [Act.put, List.setIfInBounds_toArray, List.set_cons_zero, List.set_cons_succ]
      refine gF_step (by rfl) (fun h u K hL hT hK => ?_) ?_
      · have c0 : u.cell? ⟨B, 0, none⟩ = some (.int .u32 (b.w : Int)) := blk_cell (hT.blk hL) rfl
        go_simp
        exact hK _ hT
      simp only [Act.put, List.setIfInBounds_toArray, List.set_cons_zero, List.set_cons_succ]
      refine gF_step (by rfl) (fun h u K hL hT hK => ?_) ?_
      · go_simp
        exact hK _ hT
      simp only [Act.put, List.setIfInBounds_toArray, List.set_cons_zero, List.set_cons_succ]
      refine gF_step (by rfl) (fun h u K hL hT hK => ?_) ?_
      · go_simp
        exact hK _ hT
      simp only [Act.put, List.setIfInBounds_toArray, List.set_cons_zero, List.set_cons_succ]
      refine gF_step (by rfl) (fun h u K hL hT hK => ?_) ?_
      · go_simp
        exact hK _ hT
      simp only [Act.put, List.setIfInBounds_toArray, List.set_cons_zero, List.set_cons_succ]
      refine gF_step (by rfl) (fun h u K hL hT hK => ?_) ?_
      · have c1 : u.cell? ⟨w.heap.size + 1 + 1, 1, none⟩ = some (.map (some (w.heap.size + 1))) := blk_cell hT.fix.tbl rfl
        go_simp
        exact hK _ hT
      simp only [Act.put, List.setIfInBounds_toArray, List.set_cons_zero, List.set_cons_succ]
      refine gF_step (by rfl) (fun h u K hL hT hK => ?_) ?_
      · go_simp
        exact hK _ hT
      simp only [Act.put, List.setIfInBounds_toArray, List.set_cons_zero, List.set_cons_succ]
      refine gF_step (by rfl) (fun h u K hL hT hK => ?_) ?_
      · have c0 : u.cell? ⟨B, 0, none⟩ = some (.int .u32 (b.w : Int)) := blk_cell (hT.blk hL) rfl
        go_simp
        exact hK _ hT
      simp only [Act.put, List.setIfInBounds_toArray, List.set_cons_zero, List.set_cons_succ]
      refine gF_step (by rfl) (fun h u K hL hT hK => ?_) ?_
      · exact kUpon_look 136 (.tmp 40) (.tmp 42) false rfl v0 (.map (some (w.heap.size + 1))) (.int .u32 (b.w : Int)) rfl rfl (Hlk.out u (hT.tab hL).map) (hK _ hT)
      simp only [Act.put, List.setIfInBounds_toArray, List.set_cons_zero, List.set_cons_succ]
      refine gF_step (by rfl) (fun h u K hL hT hK => ?_) ?_
      · go_simp
        exact hK _ hT
      simp only [Act.put, List.setIfInBounds_toArray, List.set_cons_zero, List.set_cons_succ]
      refine gF_step (by rfl) (fun h u K hL hT hK => ?_) ?_
      · go_simp
        exact hK _ hT
      simp only [Act.put, List.setIfInBounds_toArray, List.set_cons_zero, List.set_cons_succ]
      refine gF_step (by rfl) (fun h u K hL hT hK => ?_) ?_
      · exact kUpon_load_all 81 (.tmp 5) rfl B (blkC .u32 b).toArray 81 (0, 0) rfl (hT.blk hL) _ Tryd.underlying81 rfl (by rw [List.size_toArray, hsz]; kernel_rfl) (hK _ hT)
      simp only [Act.put, List.setIfInBounds_toArray, List.set_cons_zero, List.set_cons_succ]
      refine gF_step (by rfl) (fun h u K hL hT hK => ?_) ?_
      · exact kUpon_build_to 141 _ rfl [(0, .int .i64 (i : Int)), (1, .int .i64 (n : Int)), (2, blkV .u32 b)] rfl _ (built_plc i n b hbok) (hK _ hT)
      simp only [Act.put, List.setIfInBounds_toArray, List.set_cons_zero, List.set_cons_succ]
      refine gD_step (fun y => ∃ C, y = .slice (some ⟨C, 0, none⟩) 1 1) ⟨_, 0, rfl⟩ (by rfl) (fun u K hT hK => ?_) (fun y hy => ?_)
      · refine kUpon_slice_to 139 1 _ rfl [(0, .agg (plcC ⟨i, n, b⟩).toArray)] rfl _ _ (one_plc u ⟨i, n, b⟩ hbok) (hK _ _ ⟨_, rfl⟩ ?_)
        exact ⟨IT.up (h := []) hT (below_new _ _), _, rfl, _, _, heap_last _ _⟩
      obtain ⟨C, rfl⟩ := hy
      simp only [Act.put, List.setIfInBounds_toArray, List.set_cons_zero, List.set_cons_succ]
      refine gD_step (fun y => ∃ g n cap, y = .slice (some ⟨g, 0, none⟩) n cap) ⟨_, 0, 0, 0, rfl⟩ (by rfl) (fun u K hT hK => ?_) (fun y hy => ?_)
      · obtain ⟨⟨hx, ht, hB5, hv⟩, C', e, T', f', hC⟩ := hT
        simp only [Value.slice.injEq, Option.some.injEq, Addr.mk.injEq, and_true] at e
        subst e
        obtain ⟨v', u', hrun, ho, hg, hown⟩ := append_plc u _ v0 _ (grp s l bs i b.w) C ⟨i, n, b⟩ T' f' 1 hv hx.size hbok hC (Nat.le_trans (grp_length _ _ _ _ _) (by omega))
        obtain ⟨g', n', cap', hv'⟩ := ownP_some ho (by simp)
        refine kUpon_append 139 (.tmp 43) (.tmp 48) rfl hrun (hK _ _ ⟨g', n', cap', hv'⟩ ?_)
        refine ⟨hx.grown hg (fun q hq => .inr (hv.own q hq).1), Kl.Tab.append ht hv Hal.out hg ho hown, ?_⟩
        exact (hg.block B (heap_lt hB5) (fun e => Hv0.out (by rw [← e]))).trans hB5
      obtain ⟨g', n', cap', rfl⟩ := hy
      simp only [Act.put, List.setIfInBounds_toArray, List.set_cons_zero, List.set_cons_succ]
      refine gE_step (v := undef) (by rfl) (fun u K hT hK => ?_) ?_
      · obtain ⟨hx, ht, hB5⟩ := hT
        obtain ⟨l', u', hr, ht', hg, hll⟩ := ht.store hbok.1 (by unfold maxLen; omega)
        refine kUpon_put 136 (.tmp 34) (.tmp 36) (.tmp 49) rfl (.map (some (w.heap.size + 1))) (.int .u32 (b.w : Int)) (.slice (some ⟨g', 0, none⟩) n' cap') rfl rfl rfl hr (hK _ ?_)
        exact ⟨hx.grown hg (fun q hq => by injection hq with hq; omega), l', hll, ht'⟩
      simp only [Act.put, List.setIfInBounds_toArray, List.set_cons_zero, List.set_cons_succ]
      refine g_nil (fun w7 hT7 => ?_)
      obtain ⟨hx7, l', hl', ht7⟩ := hT7
      rw [← Hst.out] at ht7
      have HX7 := hide hx7
      have HT7 := hide ht7
      clear hx7 ht7 H0
      go_wp2
      go_roundw
      case rel => exact ⟨i + 1, l', by go_num, by omega, by omega, HX7.out, HT7.out⟩
      case measure => simp [intOf]; omega
    · obtain rfl : i = m := by omega
      have d1 : decide ((i : Int) < (i : Int)) = false := by simp
      clear ha hi
      go_wp2
      go_ret
      exact ⟨rfl, HX.out.tbl, ⟨es, by rw [HM.out]; exact HT.out⟩, HX.out.below⟩
end Go.Proofs.YtifepgigkmhdaaaDoor.Kn
/- block.Table's Find. -/
namespace Go.Proofs.YtifepgigkmhdaaaDoor.Ko
set_option linter.unusedVariables false
set_option linter.unusedSimpArgs false
set_option maxRecDepth 100000
open Go.ChangeShapes Go.WideShapes Go.ChangeAt Go.RowKit
open Go.Proofs.YtifepgigkmhdaaaDoor.Wu Go.Proofs.YtifepgigkmhdaaaDoor.Sm Go.Proofs.YtifepgigkmhdaaaDoor.Sh Go.Proofs.YtifepgigkmhdaaaDoor.Ba Go.Proofs.YtifepgigkmhdaaaDoor.Bp Go.Proofs.YtifepgigkmhdaaaDoor.Ka Go.Proofs.YtifepgigkmhdaaaDoor.Kb Go.Proofs.YtifepgigkmhdaaaDoor.Kc Go.Proofs.YtifepgigkmhdaaaDoor.Kd Go.Proofs.YtifepgigkmhdaaaDoor.Ke Go.Proofs.YtifepgigkmhdaaaDoor.Rk Go.Proofs.YtifepgigkmhdaaaDoor.Rh Go.Proofs.YtifepgigkmhdaaaDoor.Rw Go.Proofs.YtifepgigkmhdaaaDoor.Rb1 Go.Proofs.YtifepgigkmhdaaaDoor.Kg Go.Proofs.YtifepgigkmhdaaaDoor.Kh Go.Proofs.YtifepgigkmhdaaaDoor.Ki Go.Proofs.YtifepgigkmhdaaaDoor.Kj Go.Proofs.YtifepgigkmhdaaaDoor.Km Go.Proofs.YtifepgigkmhdaaaDoor.Kk Go.Proofs.YtifepgigkmhdaaaDoor.Kl
open Go.Proofs.YtifepgigkmhdaaaDoor.Sn (Fst fst_keep)
open Go.Proofs.YtifepgigkmhdaaaDoor.Sxa (Tbl tbl_keep)
open Go.Proofs.YtifepgigkmhdaaaDoor.Su (cutL Cnt)
theorem wpList_look_at {P : Program} {w : World} {ops : Array Oper} {rest : List Oper} {o : Oper} {a : Act} {Q : Exit → Act → World → Prop} (hgd : o.guard = none) (t : TypeId) (m x : Operand) (c : Bool) (hop : o.op = Op.lookup t m x c) (v mv kv : Value) (hm : a.eval m = mv) (hk : a.eval x = kv)
    (hr : (Instr.lookup t mv kv c).run P w = .ok v w) (h : wpList P ops Q rest (a.put o.dst v) w) : wpList P ops Q (o :: rest) a w := by
  subst hm hk
  refine wpList_plain hgd fun K hK => ?_
  unfold Oper.wp
  simp [execOp, hop, hr, Result.andThen]
  exact hK _ _ h
/-- Is it the one that is looked for? -/
def isIt (m : Nat) (b : Blk) (p : Plc) : Bool := decide (p.n = m ∧ p.b = b)
/-- What is found among places. -/
def Fnd (ps : List Plc) (m : Nat) (b : Blk) (i : Int) (ok : Bool) : Prop := (ok = false ∧ i = 0 ∧ ps.find? (isIt m b) = none) ∨ ∃ p, ok = true ∧ i = (p.i : Int) ∧ ps.find? (isIt m b) = some p
def FindP (w : World) (ps : List Plc) (m : Nat) (b : Blk) (e : Ending) (w' : World) : Prop := ∃ i ok, e = .returned (.tuple #[.int .i64 i, .bool ok]) ∧ Fnd ps m b i ok ∧ Below w.heap.size w w'
theorem find_none (w : World) (T M N k x m c : Nat) (a : Option Addr) (es : List (Value × Value)) (G : Nat → List Plc) (b : Blk) (hT : w.heap[T]? = some (.cells #[.int .i64 (k : Int), .map (some M)] 138 (0, 0))) (ht : Tab w M N es G) (hx : x < 4294967296) (h0 : G x = []) :
    Calls Tryd.prog 30 #[.pointer (some ⟨T, 0, none⟩), .int .u32 (x : Int), .slice a m c] w (FindP w (G x) m b) := by
  obtain ⟨v, hlk, hv, -⟩ := ht.at hx
  have HP : Hid (FindP w (G x) m b (.returned (.tuple #[.int .i64 0, .bool false])) w) := hide ⟨0, false, rfl, .inl ⟨rfl, rfl, by rw [h0]; rfl⟩, Below.refl _ _⟩
  obtain ⟨av, cv, rfl, -⟩ := hv.form
  rw [h0] at hlk
  have hr := hlk w rfl
  have c1 : w.cell? ⟨T, 1, none⟩ = some (.map (some M)) := blk_cell hT rfl
  clear hlk hv ht hT h0
  simp only [List.length_nil] at hr
  go_enter Tryd.func30, Tryd.ntmps30
  go_wp2_with (refine wpList_look_at rfl 136 (.tmp 15) (.tmp 16) false rfl _ (.map (some M)) (.int .u32 (x : Int)) rfl rfl hr ?_)
  go_ret2
  exact HP.out
set_option maxHeartbeats 3200000 in
theorem find_some (w : World) (T M N k x m c : Nat) (a : Option Addr) (L : List Nat) (es : List (Value × Value)) (G : Nat → List Plc) (hT : w.heap[T]? = some (.cells #[.int .i64 (k : Int), .map (some M)] 138 (0, 0))) (ht : Tab w M N es G) (hx : x < 4294967296) (h0 : G x ≠ []) (hk : k ≤ 32) (hs : SrcB w a m L) (hc : m ≤ c) (hbig : m ≤ 140737488355328) (hTb : Tbl w) (hF : Fst w) (hgl : (G x).length ≤ 4096) :
    Calls Tryd.prog 30 #[.pointer (some ⟨T, 0, none⟩), .int .u32 (x : Int), .slice a m c] w (FindP w (G x) m ⟨x, cutL k (sha L)⟩) := by
  obtain ⟨v, hlk, hv, -⟩ := ht.at hx
  obtain ⟨av, cv, rfl, hlc, hcm, g, hag, hat⟩ := hv.form
  have hr := hlk w rfl
  obtain ⟨ps, hps⟩ : ∃ ps, ps = G x := ⟨_, rfl⟩
  rw [← hps] at hr hlc hag hat h0 hgl ⊢
  obtain ⟨n, hn⟩ : ∃ n, n = ps.length := ⟨_, rfl⟩
  rw [← hn] at hr hlc hag hgl
  have hn0 : 0 < n := by rw [hn]; exact List.length_pos_iff.2 h0
  have ha := hag hn0
  subst ha
  have Hat := hide hat
  have HN := hide hn
  have hCnt : Cnt (k : Int) k := by unfold Cnt; omega
  have HC := hide (cut_b k k a m c L w hCnt hs hc hTb hF hbig)
  have hwok : Blk.ok ⟨x, cutL k (sha L)⟩ := ⟨hx, Su.cutL_length k _ hk (sha_len L), all8_sub (all8_sha L) k (32 - k)⟩
  have Hbu := hide (built_blk x (cutL k (sha L)) hwok.2.1)
  obtain ⟨wb, hwb⟩ : ∃ wb : Blk, wb = ⟨x, cutL k (sha L)⟩ := ⟨_, rfl⟩
  rw [← hwb] at hwok Hbu ⊢
  have hw33 : (blkC .u32 wb).length = 33 := blkC_length hwok
  obtain ⟨X, hX⟩ : ∃ X, X = cutL k (sha L) := ⟨_, rfl⟩
  rw [← hX] at HC Hbu
  have c0 : w.cell? ⟨T, 0, none⟩ = some (.int .i64 (k : Int)) := blk_cell hT rfl
  have c1 : w.cell? ⟨T, 1, none⟩ = some (.map (some M)) := blk_cell hT rfl
  have e1 : ((n : Int) == 0) = false := by simp; omega
  have e2 : (n == 0) = false := by simp; omega
  clear hlk hv ht hT h0 hps hn hat hag hs hTb hF hwb hX
  go_enter Tryd.func30, Tryd.ntmps30
  go_wp2_with (refine wpList_look_at rfl 136 (.tmp 15) (.tmp 16) false rfl _ (.map (some M)) (.int .u32 (x : Int)) rfl rfl hr ?_)
  refine HC.out.mono ?_
  rintro e w1 ⟨rfl, hb1⟩
  have HB1 := hide hb1
  have HR := hide (fun i p (hp : ps[i]? = some p) (u : World) (hu : Below w.heap.size w u) => range_below (Hat.out i p hp).2 hu)
  clear hb1 HC c0 c1 hr
  go_wp2_with (first
    | (refine wpList_build_at rfl 81 _ rfl [(0, .int .u32 (x : Int)), (1, .agg (u8s X))] rfl _ Hbu.out ?_)
    | (refine wpList_store_all rfl 81 (.tmp 9) (.tmp 28) rfl w1.heap.size (blkC .u32 wb).toArray _ 81 rfl rfl (heap_last _ _) (by rw [List.size_toArray, hw33]; rfl) (by rw [List.size_toArray, hw33]; kernel_rfl) (all_oneCell_toArray (blkC_one _ _)) ?_))
  intro w2 H2 HG2
  refine of_hid ?_
  have HBr := hide (keepB (below_new w1 (.cells (blkC .u32 ⟨0, zeros 32⟩).toArray 81)) (Nat.le_refl _) HB1.out)
  have hw1 := HB1.out.size
  have HB2 := hide (belowG HBr.out HG2.out hw1 HBr.out.size)
  clear HB1 HBr HG2 Hbu
  have hwS : w.heap.size ≤ w1.heap.size := hw1
  generalize w1.heap.size = Wb at *
  go_wp2_with fail
  go_loopw [31] (fun j wr => ∃ i, j = .int .i64 ((i : Nat) : Int) ∧ i ≤ n ∧ (∀ p ∈ ps.take i, isIt m wb p = false) ∧ wr.heap[Wb]? = some (.cells (blkC .u32 wb).toArray 81 (0, 0)) ∧ Below w.heap.size w wr) (fun j _ => n - (intOf j).toNat)
  case atStart => exact ⟨0, rfl, Nat.zero_le _, by simp, H2.out, HB2.out⟩
  case round =>
    clear H2 HB2
    obtain ⟨i, rfl, hi, hno, hW, hB⟩ := hrel
    have HW := hide hW
    have HB := hide hB
    have HNo := hide hno
    clear hW hB hno
    by_cases hlt : i < n
    · obtain ⟨p, hp⟩ : ∃ p, ps[i]? = some p := ⟨ps[i]'(by rw [← HN.out]; exact hlt), by rw [List.getElem?_eq_getElem]⟩
      have hpok := (Hat.out i p hp).1
      have hr0 := HR.out i p hp wr HB.out
      have Hp := hide hp
      clear hp
      have d1 : decide ((i : Int) < (n : Int)) = true := by simpa using hlt
      have i1 : (0 : Int) ≤ (i : Int) := by omega
      have i2 : (i : Int) < (n : Int) := by omega
      have h35 : (plcC p).length = 35 := plcC_length hpok
      have h33 : (blkC .u32 p.b).length = 33 := blkC_length hpok
      go_wp2_with (first
        | (refine wpList_load_part rfl 141 (.tmp 33) rfl g (i * 35) (plcC p) rfl hr0 _ Tryd.underlying141 rfl (by rw [h35]; kernel_rfl) ?_)
        | (refine wpList_store_all rfl 141 (.tmp 11) (.tmp 34) rfl wr.heap.size (plcC p).toArray _ 141 rfl rfl (heap_last _ _) (by rw [List.size_toArray, h35]; rfl) (by rw [List.size_toArray, h35]; kernel_rfl) (all_oneCell_toArray (plcC_one _)) ?_))
      intro w5 H5 HG5
      refine of_hid ?_
      have HBr := hide (keepB (below_new wr (.cells (plcC ⟨0, 0, ⟨0, zeros 32⟩⟩).toArray 141)) (Nat.le_refl _) HB.out)
      have hwr := HB.out.size
      have hlW := heap_lt HW.out
      have HW5 := hide (keepG HG5.out (by omega) (heap_old HW.out _))
      have HB5 := hide (belowG HBr.out HG5.out hwr HBr.out.size)
      clear HW HB HBr HG5 hr0
      generalize wr.heap.size = B at *
      have c0 : w5.cell? ⟨B, 0, none⟩ = some (.int .i64 (p.i : Int)) := blk_cell H5.out rfl
      have c1 : w5.cell? ⟨B, 1, none⟩ = some (.int .i64 (p.n : Int)) := blk_cell H5.out rfl
      have hrb : w5.rangeAt B 2 (blkC .u32 p.b) := fun j v hv => blk_cell H5.out (by
        simp only [List.getElem?_toArray, plcC, Nat.add_comm 2 j, List.getElem?_cons_succ]
        exact hv)
      have hm : Tryd.prog.eqGuardType Tryd.prog.depth 81 = false := by kernel_rfl
      have HStep : Hid (isIt m wb p = false → ∀ q ∈ ps.take (i + 1), isIt m wb q = false) := hide (fun h q hq => by
        rw [List.take_add_one, Hp.out] at hq
        rcases List.mem_append.1 hq with hq | hq
        · exact HNo.out q hq
        · simp at hq; rw [hq]; exact h)
      by_cases hpn : p.n = m
      · have e3 : ((p.n : Int) == (m : Int)) = true := by simp [hpn]
        have e4 : (p.n == m) = true := by simp [hpn]
        have hq := fun u => blk_eq p.b wb hpok hwok u
        by_cases hpb : p.b = wb
        · have HP : Hid (∀ u, Below w.heap.size w u → FindP w ps m wb (.returned (.tuple #[.int .i64 (p.i : Int), .bool true])) u) := hide (fun u hu => ⟨p.i, true, rfl, .inr ⟨p, rfl, rfl, by
            rw [List.find?_eq_some_iff_append]
            refine ⟨by simp [isIt, hpn, hpb], ps.take i, ps.drop (i + 1), split_at ps i p Hp.out, fun q hq => by simp [HNo.out q hq]⟩⟩, hu⟩)
          rw [show decide (p.b = wb) = true by simpa using hpb] at hq
          clear hpn hpb HStep
          go_wp2_with (first
            | (refine wpList_load_partw (by rfl) 81 (.tmp 41) rfl B 2 (blkC .u32 p.b) rfl hrb _ Tryd.underlying81 rfl (by rw [h33]; kernel_rfl) ?_)
            | (refine wpList_load_allw (by rfl) 81 (.tmp 9) rfl Wb (blkC .u32 wb).toArray 81 (0, 0) rfl HW5.out _ Tryd.underlying81 rfl (by rw [List.size_toArray, hw33]; kernel_rfl) ?_))
          go_ret2
          exact HP.out _ HB5.out
        · have Hst := hide (HStep.out (by simp [isIt, hpb]))
          rw [show decide (p.b = wb) = false by simpa using hpb] at hq
          clear hpn hpb HStep
          go_wp2_with (first
            | (refine wpList_load_partw (by rfl) 81 (.tmp 41) rfl B 2 (blkC .u32 p.b) rfl hrb _ Tryd.underlying81 rfl (by rw [h33]; kernel_rfl) ?_)
            | (refine wpList_load_allw (by rfl) 81 (.tmp 9) rfl Wb (blkC .u32 wb).toArray 81 (0, 0) rfl HW5.out _ Tryd.underlying81 rfl (by rw [List.size_toArray, hw33]; kernel_rfl) ?_))
          go_roundw
          case rel => exact ⟨i + 1, by go_num, by omega, Hst.out, HW5.out, HB5.out⟩
          case measure => simp [intOf]; omega
      · have e3 : ((p.n : Int) == (m : Int)) = false := by simp; omega
        have e4 : (p.n == m) = false := by simpa using hpn
        have Hst := hide (HStep.out (by simp [isIt, hpn]))
        clear hpn HStep
        go_wp2
        go_roundw
        case rel => exact ⟨i + 1, by go_num, by omega, Hst.out, HW5.out, HB5.out⟩
        case measure => simp [intOf]; omega
    · obtain rfl : i = n := by omega
      have HP : Hid (∀ u, Below w.heap.size w u → FindP w ps m wb (.returned (.tuple #[.int .i64 0, .bool false])) u) := hide (fun u hu => ⟨0, false, rfl, .inl ⟨rfl, rfl, List.find?_eq_none.2 (fun p hp => by
        have := HNo.out p (by rw [List.take_of_length_le (by rw [← HN.out]; exact Nat.le_refl _)]; exact hp)
        simp [this])⟩, hu⟩)
      have d1 : decide ((i : Int) < (i : Int)) = false := by simp
      clear hi
      go_wp2
      go_ret2
      exact HP.out _ HB.out
end Go.Proofs.YtifepgigkmhdaaaDoor.Ko
/- The head of layer 6's statements. -/
namespace Go.Proofs.YtifepgigkmhdaaaDoor.Kp
set_option linter.unusedVariables false
set_option linter.unusedSimpArgs false
set_option maxRecDepth 100000
open Go.ChangeShapes Go.WideShapes Go.ChangeAt Go.RowKit
open Go.Proofs.YtifepgigkmhdaaaDoor.Wu Go.Proofs.YtifepgigkmhdaaaDoor.Sm Go.Proofs.YtifepgigkmhdaaaDoor.Sh Go.Proofs.YtifepgigkmhdaaaDoor.Ba Go.Proofs.YtifepgigkmhdaaaDoor.Bp Go.Proofs.YtifepgigkmhdaaaDoor.Ka Go.Proofs.YtifepgigkmhdaaaDoor.Kb Go.Proofs.YtifepgigkmhdaaaDoor.Kc Go.Proofs.YtifepgigkmhdaaaDoor.Kd Go.Proofs.YtifepgigkmhdaaaDoor.Ke Go.Proofs.YtifepgigkmhdaaaDoor.Kf Go.Proofs.YtifepgigkmhdaaaDoor.Rk Go.Proofs.YtifepgigkmhdaaaDoor.Rh Go.Proofs.YtifepgigkmhdaaaDoor.Rw Go.Proofs.YtifepgigkmhdaaaDoor.Rb1 Go.Proofs.YtifepgigkmhdaaaDoor.Kg Go.Proofs.YtifepgigkmhdaaaDoor.Kh Go.Proofs.YtifepgigkmhdaaaDoor.Ki Go.Proofs.YtifepgigkmhdaaaDoor.Kj Go.Proofs.YtifepgigkmhdaaaDoor.Km Go.Proofs.YtifepgigkmhdaaaDoor.Kk Go.Proofs.YtifepgigkmhdaaaDoor.Kl Go.Proofs.YtifepgigkmhdaaaDoor.Kn Go.Proofs.YtifepgigkmhdaaaDoor.Ko
open Go.Proofs.YtifepgigkmhdaaaDoor.Sn (Fst fst_keep)
open Go.Proofs.YtifepgigkmhdaaaDoor.Sxa (Tbl tbl_keep)
open Go.Proofs.YtifepgigkmhdaaaDoor.Su (cutL Cnt)
theorem wk_ab : wkN [97, 98] = 19136707 := by decide +kernel
theorem wk_c : wkN [99] = 6488163 := by decide +kernel
theorem mk_abc (k : Nat) : mkB [97, 98, 99] 2 k 2 = [⟨19136707, cutL k (sha [97, 98])⟩, ⟨6488163, cutL k (sha [99])⟩] := by
  have e0 : piece [97, 98, 99] 2 0 = [97, 98] := rfl
  have e1 : piece [97, 98, 99] 2 1 = [99] := rfl
  have er : List.range 2 = [0, 1] := rfl
  unfold mkB blkOf
  rw [er]
  simp only [List.map_cons, List.map_nil, e0, e1, wk_ab, wk_c]
theorem grp_abc (X Y : List Nat) : grp 2 3 [⟨19136707, X⟩, ⟨6488163, Y⟩] 2 6488163 = [⟨1, 1, ⟨6488163, Y⟩⟩] := by
  have er : List.range 2 = [0, 1] := rfl
  unfold grp plcs
  rw [er]
  simp [List.getD]
theorem found_abc {X Y : List Nat} {i : Int} {ok : Bool} (h : Fnd (grp 2 3 [⟨19136707, X⟩, ⟨6488163, Y⟩] 2 6488163) 1 ⟨6488163, Y⟩ i ok) : i = 1 ∧ ok = true := by
  rw [grp_abc] at h
  rcases h with ⟨_, _, h⟩ | ⟨p, h1, h2, h3⟩
  · simp [isIt] at h
  · simp only [List.find?_cons, List.find?_nil] at h3
    split at h3
    · injection h3 with h3
      subst h3
      exact ⟨h2, h1⟩
    · cases h3
theorem src_const (w : World) (xs : List Nat) (f : Nat × Nat) (h8 : All8 xs) : SrcB (w.alloc (.cells (u8s xs) 5 f)) (some ⟨w.heap.size, 0, none⟩) xs.length xs :=
  ⟨rfl, h8, w.heap.size, 0, fun _ => rfl, fun i hi => by rw [Nat.zero_add]; exact row8 (heap_last _ _) hi⟩
set_option maxHeartbeats 3200000 in
theorem sums_c (w : World) (hT : Tbl w) (hF : Fst w) : Calls Tryd.prog 22 #[] w fun e w' => e = .returned (.bool true) ∧ Below w.heap.size w w' := by
  have HTF := hide (fun (u : World) (hu : Below w.heap.size w u) => (⟨tbl_keep hT hu (Nat.le_refl _), fst_keep hF hu (Nat.le_refl _)⟩ : Tbl u ∧ Fst u))
  have kc := fun (w : World) (C : Array Value) (n c : Nat) => Lib.run_convert_bytes_const (P := Tryd.prog) w 22 5 C n c Tryd.underlying22 Tryd.underlying5
  have hs0 := src_const w [97, 98, 99] (3, 4) (by intro z hz; simp at hz; omega)
  have HM := hide (make_ok (some ⟨w.heap.size, 0, none⟩) 3 3 [97, 98, 99] 2 4 2 (w.alloc (.cells (u8s [97, 98, 99]) 5 (3, 4))) hs0 (by omega) (by omega) (by decide) (by decide) (HTF.out _ (below_new _ _)).1 (HTF.out _ (below_new _ _)).2)
  have HB0 := hide (below_new w (.cells (u8s [97, 98, 99]) 5 (3, 4)))
  simp only [Int.cast_ofNat_Int] at HM
  rw [mk_abc 4] at HM
  obtain ⟨X, hX⟩ : ∃ X, X = cutL 4 (sha [97, 98]) := ⟨_, rfl⟩
  obtain ⟨Y, hY⟩ : ∃ Y, Y = cutL 4 (sha [99]) := ⟨_, rfl⟩
  have hch : checkE 2 4 3 [⟨19136707, X⟩, ⟨6488163, Y⟩] = 0 := by
    have := mk_check [97, 98, 99] 2 4 2 3 (by decide) (by decide)
    rw [mk_abc 4, ← hX, ← hY] at this
    exact this
  have Hch := hide hch
  have HY := hide hY
  rw [← hX, ← hY] at HM
  clear hT hF hs0 hX hY hch
  go_enter Tryd.func22, Tryd.ntmps22
  go_wp2_with fail
  refine HM.out.mono ?_
  rintro e w1 ⟨v, rfl, ho, hb1⟩
  have HB1 := hide (keepB hb1 (Nat.le_refl _) HB0.out)
  have his := ho.is
  obtain ⟨_, av, cv, hv, hcv, hcm, _⟩ := his
  simp only [List.length_cons, List.length_nil, Nat.zero_add, Nat.reduceAdd] at hv hcv
  subst hv
  have HI := hide (fun (u : World) (hu : Below w1.heap.size w1 u) => ho.is.below hu)
  clear ho hb1 HM HB0
  unfold sigV
  have HCk := hide (fun (u : World) (hu : Below w1.heap.size w1 u) => check_c u 2 4 3 (.slice av 2 cv) _ (HI.out u hu) (by omega) (by simp))
  rw [Hch.out] at HCk
  have HSp := hide (fun (u : World) (hu : Below w1.heap.size w1 u) => Span_c u 2 4 3 1 1 av 2 cv _ (HI.out u hu) rfl Hch.out (by omega) (by decide))
  simp only [Int.cast_ofNat_Int, Nat.one_mul] at HSp
  have HIx := hide (fun (u : World) (hu : Below w1.heap.size w1 u) => index_c u 2 4 3 2 cv av _ (HI.out u hu) rfl Hch.out)
  simp only [Int.cast_ofNat_Int] at HIx
  unfold sigV at HCk HSp HIx
  clear kc
  have HS1 := hide (heap_last w1 (.cells #[.int .i64 2, .int .i64 4, .int .i64 3, .slice av 2 cv] 49))
  have Hn1 := hide (below_new w1 (.cells #[.int .i64 2, .int .i64 4, .int .i64 3, .slice av 2 cv] 49))
  go_wp2_with fail
  generalize (w1.alloc (.cells #[.int .i64 2, .int .i64 4, .int .i64 3, .slice av 2 cv] 49)) = w2 at *
  (with_reducible refine Calls.mono (HCk.out w2 Hn1.out) ?_)
  rintro e w3 ⟨rfl, hb3⟩
  have HS3 := hide (below_blk hb3 (heap_lt HS1.out) HS1.out)
  have Hn3 := hide (keepB hb3 (Nat.le_refl _) Hn1.out)
  clear hb3 HS1 Hn1 HCk
  obtain ⟨c0, c1, c2, c3⟩ := Sig4.cells (T := 49) HS3.out
  go_wp2_with fail
  (with_reducible refine Calls.mono (HSp.out w3 Hn3.out) ?_)
  rintro e w4 ⟨rfl, hb4⟩
  have HS4 := hide (below_blk hb4 (heap_lt HS3.out) HS3.out)
  have Hn4 := hide (keepB hb4 (Nat.le_refl _) Hn3.out)
  clear hb4 HS3 Hn3 HSp c0 c1 c2 c3
  obtain ⟨c0, c1, c2, c3⟩ := Sig4.cells (T := 49) HS4.out
  go_wp2_with fail
  (with_reducible refine Calls.mono (HIx.out w4 Hn4.out) ?_)
  rintro e w5 ⟨rfl, hTb5, ⟨es, hTab5⟩, hb5⟩
  have HS5 := hide (below_blk hb5 (heap_lt HS4.out) HS4.out)
  have Hn5 := hide (keepB hb5 (Nat.le_refl _) Hn4.out)
  have HTb5 := hide hTb5
  have HTab5 := hide hTab5
  clear hb5 hTb5 hTab5 HS4 Hn4 HIx c0 c1 c2 c3
  have kc := fun (w : World) (C : Array Value) (n c : Nat) => Lib.run_convert_bytes_const (P := Tryd.prog) w 22 5 C n c Tryd.underlying22 Tryd.underlying5
  generalize w4.heap.size = T4 at *
  have hs5 := src_const w5 [99] (1, 2) (by intro z hz; simp at hz; omega)
  have hn5 := below_new w5 (.cells (u8s [99]) 5 (1, 2))
  have HW := hide (weak_b (some ⟨w5.heap.size, 0, none⟩) 1 1 [99] (w5.alloc (.cells (u8s [99]) 5 (1, 2))) hs5 (by omega))
  have hTbn := heap_old HTb5.out (.cells (u8s [99]) 5 (1, 2))
  have hTab := HTab5.out.below hn5
  have HS6 := hide (heap_old HS5.out (.cells (u8s [99]) 5 (1, 2)))
  have Hn6 := hide (keepB hn5 (Nat.le_refl _) Hn5.out)
  have HTb6 := hide hTbn
  have HTab6 := hide hTab
  clear hs5 hn5 hTbn hTab HS5 Hn5 HTb5 HTab5
  go_wp2_with fail
  refine Calls.mono HW.out ?_
  clear HW
  generalize (w5.alloc (.cells #[.int .u8 99] 5 (1, 2))) = w6 at *
  rintro e w7 ⟨rfl, hb7⟩
  have HS7 := hide (below_blk hb7 (heap_lt HS6.out) HS6.out)
  have Hn7 := hide (keepB hb7 (Nat.le_refl _) Hn6.out)
  have HTb7 := hide (below_blk hb7 (heap_lt HTb6.out) HTb6.out)
  have HTab7 := hide (HTab6.out.below hb7)
  clear hb7 HS6 Hn6 HTb6 HTab6
  have HV := hide (value_b 1 [99] w7)
  rw [wk_c] at HV
  go_wp2_with fail
  refine Calls.mono HV.out ?_
  rintro e w8 ⟨rfl, hb8⟩
  have HS8 := hide (below_blk hb8 (heap_lt HS7.out) HS7.out)
  have Hn8 := hide (keepB hb8 (Nat.le_refl _) Hn7.out)
  have HTb8 := hide (below_blk hb8 (heap_lt HTb7.out) HTb7.out)
  have HTab8 := hide (HTab7.out.below hb8)
  clear hb8 HS7 Hn7 HTb7 HTab7 HV
  have hs8 := src_const w8 [99] (1, 2) (by intro z hz; simp at hz; omega)
  have hn8 := below_new w8 (.cells (u8s [99]) 5 (1, 2))
  have htf := HTF.out _ (keepB (keepB hn8 (Nat.le_refl _) Hn8.out) (by exact Nat.le_refl _) HB1.out)
  have HFi := hide (find_some (w8.alloc (.cells (u8s [99]) 5 (1, 2))) (T4 + 1 + 1) (T4 + 1) (T4 + 3) 4 6488163 1 1 (some ⟨w8.heap.size, 0, none⟩) [99] es _ (heap_old HTb8.out _) (HTab8.out.below hn8) (by omega) (by
    show grp 2 3 [⟨19136707, X⟩, ⟨6488163, Y⟩] 2 6488163 ≠ []
    rw [grp_abc]; simp) (by omega) hs8 (by simp) (by simp) htf.1 htf.2 (by
    show (grp 2 3 [⟨19136707, X⟩, ⟨6488163, Y⟩] 2 6488163).length ≤ 4096
    rw [grp_abc]; simp))
  have HS9 := hide (heap_old HS8.out (.cells (u8s [99]) 5 (1, 2)))
  have Hn9 := hide (keepB hn8 (Nat.le_refl _) Hn8.out)
  clear hs8 hn8 htf HS8 Hn8 HTb8 HTab8
  go_wp2_with fail
  refine Calls.mono HFi.out ?_
  clear HFi
  generalize (w8.alloc (.cells #[.int .u8 99] 5 (1, 2))) = w9 at *
  rintro e w10 ⟨i, ok, rfl, hf, hb10⟩
  have hf' : Fnd (grp 2 3 [⟨19136707, X⟩, ⟨6488163, Y⟩] 2 6488163) 1 ⟨6488163, Y⟩ i ok := by
    have := hf
    rw [← HY.out] at this
    exact this
  obtain ⟨rfl, rfl⟩ := found_abc hf'
  have HS10 := hide (below_blk hb10 (heap_lt HS9.out) HS9.out)
  have HB10 := hide (keepB (keepB hb10 (Nat.le_refl _) Hn9.out) (Nat.le_refl _) HB1.out)
  clear hf hf' hb10 HS9 Hn9 kc
  obtain ⟨c0, c1, c2, c3⟩ := Sig4.cells (T := 49) HS10.out
  go_wp2
  go_ret
  exact ⟨rfl, HB10.out⟩
end Go.Proofs.YtifepgigkmhdaaaDoor.Kp
