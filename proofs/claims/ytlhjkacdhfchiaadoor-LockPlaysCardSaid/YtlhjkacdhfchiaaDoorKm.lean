/- A map told by the list of its entries, whatever its keys and elements are. For any program. -/
import Derived.Maps.Keyed
import Derived.Maps.Range
import Derived.OwnWalk
import Derived.Below
namespace Go.Proofs.YtlhjkacdhfchiaaDoor.Km
set_option linter.unusedVariables false
set_option linter.unusedSimpArgs false
set_option maxRecDepth 100000
open Go.ChangeShapes Go.WideShapes Go.MapKept Go.Maps Go.RowKit
open Go.ChangeMaps (setBlock)
open Go.WideElems (Fit rd rg pl rd_key rd_val rg_of rd_mk other_key)
/-- Nothing is asked of an element. -/
def triv : Value → Option (DataW Unit × List MemPlace) := fun _ => some (.nil, [])
def pairs (es : Array MapEntry) : List (Value × Value) := es.toList.map fun x => (x.key, x.val)
def Absent (l : List (Value × Value)) (key : Value) : Prop := ∀ p ∈ l, p.1 ≠ key
def Here (l : List (Value × Value)) (key v : Value) : Prop := (key, v) ∈ l
/-- Block b is a map with these entries. -/
def MapL (P : Program) (k : TypeId) (w : World) (b : Nat) (l : List (Value × Value)) : Prop :=
  ∃ es clock, w.heap[b]? = some (.map es clock) ∧ Fit P k triv es clock ∧ l = pairs es
section
variable {P : Program} {k t e : TypeId} {w : World} {b : Nat} {l : List (Value × Value)}
theorem setBlock_same {o o' : Obj} (h : w.heap[b]? = some o) : (setBlock w b o').heap[b]? = some o' := by
  have : b < w.heap.size := (Array.getElem?_eq_some_iff.1 h).1
  simp [setBlock, this]
theorem setBlock_grown (o : Obj) : w.grownBy (setBlock w b o) (some b) :=
  ⟨rfl, rfl, rfl, by simp [setBlock], fun i _ hi => by
    simp only [setBlock]
    rw [Array.getElem?_setIfInBounds_ne (fun e => hi (by rw [e]))]⟩
theorem MapL.lt (h : MapL P k w b l) : b < w.heap.size := by
  obtain ⟨es, clock, hb, _⟩ := h
  exact (Array.getElem?_eq_some_iff.1 hb).1
theorem MapL.same {w' : World} (h : MapL P k w b l) (e : w'.heap[b]? = w.heap[b]?) : MapL P k w' b l := by
  obtain ⟨es, clock, hb, r⟩ := h
  exact ⟨es, clock, e.trans hb, r⟩
theorem MapL.made (w : World) : MapL P k (w.alloc (.map #[] 0)) w.heap.size [] :=
  ⟨#[], 0, (MapKept.heap_alloc w _).1, ⟨by simp, stamped_empty 0, by simp⟩, rfl⟩
/-- No key stands twice. -/
theorem MapL.once (h : MapL P k w b l) : l.Pairwise (fun p q => p.1 ≠ q.1) := by
  obtain ⟨es, clock, hb, F, rfl⟩ := h
  exact List.pairwise_map.2 ((stamped_iff es clock).1 F.stamped).2.2
theorem MapL.max (h : MapL P k w b l) : l.length ≤ maxLen := by
  obtain ⟨es, clock, hb, F, rfl⟩ := h
  simpa [pairs] using F.size
theorem MapL.key (h : MapL P k w b l) : ∀ p ∈ l, ∃ kl, keyOf P k p.1 = some kl := by
  obtain ⟨es, clock, hb, F, rfl⟩ := h
  intro p hp
  obtain ⟨x, hx, rfl⟩ := List.mem_map.1 hp
  obtain ⟨y, hy⟩ := F.reads x hx
  exact ⟨_, rd_key hy⟩
/-- Of two entries with one key there is one. -/
theorem MapL.one (h : MapL P k w b l) {key v v' : Value} (h1 : (key, v) ∈ l) (h2 : (key, v') ∈ l) : v = v' := by
  have := h.once
  clear h
  induction l with
  | nil => cases h1
  | cons p l ih =>
    obtain ⟨ha, hb⟩ := List.pairwise_cons.1 this
    rcases List.mem_cons.1 h1 with e1 | e1
    · rcases List.mem_cons.1 h2 with e2 | e2
      · rw [← e1] at e2; injection e2 with _ e2; exact e2.symm
      · rw [← e1] at ha; exact (ha _ e2 rfl).elim
    · rcases List.mem_cons.1 h2 with e2 | e2
      · rw [← e2] at ha; exact (ha _ e1 rfl).elim
      · exact ih e1 e2 hb
/-- m[k] -/
theorem MapL.look (h : MapL P k w b l) (c : Bool) (K : Keyed P k) (ht : P.underlying t = some (.map k e)) {z : Value} (hz : (zeroValue e).run P w = .ok z w) {key : Value} {kl : Lit} (hkey : keyOf P k key = some kl) :
    ((Instr.lookup t (.map (some b)) key c).run P w = .ok (if c then .tuple #[z, .bool false] else z) w ∧ ∀ p ∈ l, p.1 ≠ key) ∨
    ∃ v, (key, v) ∈ l ∧ (Instr.lookup t (.map (some b)) key c).run P w = .ok (if c then .tuple #[v, .bool true] else v) w := by
  obtain ⟨es, clock, hb, F, rfl⟩ := h
  rcases fit_look c K ht hz hb F hkey with ⟨h1, h2, _⟩ | ⟨e0, y, h1, h2, h3, _⟩
  · refine .inl ⟨h1, fun p hp => ?_⟩
    obtain ⟨x, hx, rfl⟩ := List.mem_map.1 hp
    exact h2 x hx
  · exact .inr ⟨e0.val, List.mem_map.2 ⟨e0, h1, by rw [h2]⟩, h3⟩
/-- What m[k] = v makes of the entries. -/
def Put (l : List (Value × Value)) (key val : Value) (l' : List (Value × Value)) : Prop :=
  ((∀ p ∈ l, p.1 ≠ key) ∧ l' = l ++ [(key, val)]) ∨ ∃ l1 v l2, l = l1 ++ (key, v) :: l2 ∧ l' = l1 ++ (key, val) :: l2
theorem split_at {α : Type} : ∀ (l : List α) (j : Nat) (x : α), l[j]? = some x → l = l.take j ++ x :: l.drop (j + 1)
  | [], j, x, h => by simp at h
  | a :: l, 0, x, h => by simp at h; subst h; simp
  | a :: l, j + 1, x, h => by
    have := split_at l j x (by simpa using h)
    simp only [List.take_succ_cons, List.drop_succ_cons, List.cons_append, List.cons.injEq, true_and]
    exact this
theorem MapL.store (h : MapL P k w b l) (K : Keyed P k) (ht : P.underlying t = some (.map k e)) (hroom : l.length < maxLen) {key : Value} (val : Value) {kl : Lit} (hkey : keyOf P k key = some kl) :
    ∃ l' w', (Instr.mapUpdate t (.map (some b)) key val).run P w = .ok () w' ∧ MapL P k w' b l' ∧ Put l key val l' ∧ w.grownBy w' (some b) := by
  obtain ⟨es, clock, hb, F, rfl⟩ := h
  have hroom : es.size < maxLen := by simpa [pairs] using hroom
  rcases K.find w hkey es.toList F.keys with ⟨h1, h2⟩ | ⟨j, e0, h1, h2, h3⟩
  · refine ⟨_, setBlock w b (.map (es.push ⟨key, val, clock⟩) (clock + 1)), ?_, ⟨es.push ⟨key, val, clock⟩, clock + 1, setBlock_same hb, ⟨by simp; omega, stamped_push F.stamped h2, ?_⟩, rfl⟩, .inl ⟨?_, ?_⟩, setBlock_grown _⟩
    · simp [Instr.mapUpdate, run_underlying ht, MapKept.run_getObj_map hb, K.check w false hkey, h1, MapKept.run_setObj_map _ hb, Result.andThen, setBlock]
    · intro x hx
      simp only [Array.toList_push, List.mem_append, List.mem_singleton] at hx
      rcases hx with hx | rfl
      · exact F.reads x hx
      · exact ⟨_, rd_mk hkey (yv := (.nil, [])) rfl⟩
    · intro p hp
      obtain ⟨x, hx, rfl⟩ := List.mem_map.1 hp
      exact h2 x hx
    · simp [pairs]
  · have hj : es[j]? = some e0 := by simpa using h2
    have hkeyf : ∀ e', es[j]? = some e' → ({ e' with key := key, val := val } : MapEntry).key = e'.key := fun e' he' => by rw [hj] at he'; cases he'; exact h3.symm
    have hlist : (es.modify j (fun e' => { e' with key := key, val := val })).toList = es.toList.set j { e0 with key := key, val := val } := by rw [Array.toList_modify, ChangeMaps.modify_eq_set _ _ _ _ h2]
    refine ⟨_, setBlock w b (.map (es.modify j (fun e' => { e' with key := key, val := val })) clock), ?_, ⟨es.modify j (fun e' => { e' with key := key, val := val }), clock, setBlock_same hb, ⟨by simpa using F.size, stamped_modify F.stamped _ _ (fun _ _ => rfl) (fun e' _ he' => hkeyf e' he'), ?_⟩, rfl⟩, .inr ⟨(pairs es).take j, e0.val, (pairs es).drop (j + 1), ?_, ?_⟩, setBlock_grown _⟩
    · simp [Instr.mapUpdate, run_underlying ht, MapKept.run_getObj_map hb, K.check w false hkey, h1, hj, h3, K.stays w hkey, MapKept.run_setObj_map _ hb, Result.andThen, setBlock]
    · intro x hx
      rw [hlist] at hx
      rcases List.mem_or_eq_of_mem_set hx with hx | rfl
      · exact F.reads x hx
      · exact ⟨_, rd_mk hkey (yv := (.nil, [])) rfl⟩
    · have := split_at (pairs es) j (e0.key, e0.val) (by simp [pairs, hj])
      rw [h3] at this
      exact this
    · simp only [pairs, hlist]
      rw [List.map_set, List.set_eq_take_append_cons_drop, if_pos (by simpa using (List.getElem?_eq_some_iff.1 h2).1)]
/-- What delete(m, k) makes of them. -/
def Del (l : List (Value × Value)) (key : Value) (l' : List (Value × Value)) : Prop :=
  ((∀ p ∈ l, p.1 ≠ key) ∧ l' = l) ∨ ∃ l1 v l2, l = l1 ++ (key, v) :: l2 ∧ l' = l1 ++ l2
theorem MapL.drop (h : MapL P k w b l) (K : Keyed P k) (ht : P.underlying t = some (.map k e)) (ty : TypeId) {key : Value} {kl : Lit} (hkey : keyOf P k key = some kl) :
    ∃ l' w', (Builtin.delete_ #[t, k] ty #[.map (some b), key]).run P w = .ok (.tuple #[]) w' ∧ MapL P k w' b l' ∧ Del l key l' ∧ w.grownBy w' (some b) := by
  obtain ⟨es, clock, hb, F, rfl⟩ := h
  rcases K.find w hkey es.toList F.keys with ⟨h1, h2⟩ | ⟨j, e0, h1, h2, h3⟩
  · refine ⟨_, setBlock w b (.map es clock), ?_, ⟨es, clock, setBlock_same hb, F, rfl⟩, .inl ⟨?_, rfl⟩, setBlock_grown _⟩
    · simp [Builtin.delete_, run_underlying ht, MapKept.run_getObj_map hb, K.check w _ hkey, h1, MapKept.run_setObj_map _ hb, Result.andThen, setBlock]
    · intro p hp
      obtain ⟨x, hx, rfl⟩ := List.mem_map.1 hp
      exact h2 x hx
  · have hj : es[j]? = some e0 := by simpa using h2
    have hjs : j < es.size := by simpa using (List.getElem?_eq_some_iff.1 h2).1
    have hsub : (es.eraseIdxIfInBounds j).toList = es.toList.eraseIdx j := by
      unfold Array.eraseIdxIfInBounds
      rw [dif_pos hjs]
      simp
    refine ⟨_, setBlock w b (.map (es.eraseIdxIfInBounds j) clock), ?_, ⟨es.eraseIdxIfInBounds j, clock, setBlock_same hb, ⟨Nat.le_trans (MapFrom.size_erase es j) F.size, stamped_erase F.stamped j, ?_⟩, rfl⟩, .inr ⟨(pairs es).take j, e0.val, (pairs es).drop (j + 1), ?_, ?_⟩, setBlock_grown _⟩
    · simp [Builtin.delete_, run_underlying ht, MapKept.run_getObj_map hb, K.check w _ hkey, h1, MapKept.run_setObj_map _ hb, Result.andThen, setBlock]
    · intro x hx
      rw [hsub] at hx
      exact F.reads x ((List.eraseIdx_sublist _ _).subset hx)
    · have := split_at (pairs es) j (e0.key, e0.val) (by simp [pairs, hj])
      rw [h3] at this
      exact this
    · simp only [pairs, hsub, ChangeMaps.map_eraseIdx]
      rw [List.eraseIdx_eq_take_drop_succ]
theorem Put.mem {key val : Value} {l' : List (Value × Value)} (h : Put l key val l') (ho : l.Pairwise (fun p q => p.1 ≠ q.1)) (p : Value × Value) : p ∈ l' ↔ p = (key, val) ∨ (p ∈ l ∧ p.1 ≠ key) := by
  rcases h with ⟨h1, rfl⟩ | ⟨l1, v, l2, rfl, rfl⟩
  · constructor
    · intro hp
      rcases List.mem_append.1 hp with h | h
      · exact .inr ⟨h, h1 p h⟩
      · exact .inl (by simpa using h)
    · rintro (rfl | ⟨h, _⟩) <;> simp [*]
  · have h2 := List.pairwise_append.1 ho
    obtain ⟨h3, h4, h5⟩ := h2
    obtain ⟨h6, h7⟩ := List.pairwise_cons.1 h4
    constructor
    · intro hp
      rcases List.mem_append.1 hp with h | h
      · exact .inr ⟨List.mem_append_left _ h, h5 p h (key, v) List.mem_cons_self⟩
      · rcases List.mem_cons.1 h with rfl | h
        · exact .inl rfl
        · exact .inr ⟨by simp [h], fun e => h6 p h e.symm⟩
    · rintro (rfl | ⟨h, hne⟩)
      · simp
      · rcases List.mem_append.1 h with h | h
        · simp [h]
        · rcases List.mem_cons.1 h with rfl | h
          · exact absurd rfl hne
          · simp [h]
theorem Put.length {key val : Value} {l' : List (Value × Value)} (h : Put l key val l') : l'.length ≤ l.length + 1 := by
  rcases h with ⟨h1, rfl⟩ | ⟨l1, v, l2, rfl, rfl⟩ <;> simp
theorem Del.mem {key : Value} {l' : List (Value × Value)} (h : Del l key l') (ho : l.Pairwise (fun p q => p.1 ≠ q.1)) (p : Value × Value) : p ∈ l' ↔ (p ∈ l ∧ p.1 ≠ key) := by
  rcases h with ⟨h1, rfl⟩ | ⟨l1, v, l2, rfl, rfl⟩
  · exact ⟨fun h => ⟨h, h1 p h⟩, fun h => h.1⟩
  · obtain ⟨h3, h4, h5⟩ := List.pairwise_append.1 ho
    obtain ⟨h6, h7⟩ := List.pairwise_cons.1 h4
    constructor
    · intro hp
      rcases List.mem_append.1 hp with h | h
      · exact ⟨List.mem_append_left _ h, h5 p h (key, v) List.mem_cons_self⟩
      · exact ⟨by simp [h], fun e => h6 p h e.symm⟩
    · rintro ⟨h, hne⟩
      rcases List.mem_append.1 h with h | h
      · simp [h]
      · rcases List.mem_cons.1 h with rfl | h
        · exact absurd rfl hne
        · simp [h]
end
section
variable {P : Program} {w : World} {ops : Array Oper} {rest : List Oper} {o : Oper} {a : Act} {Q : Exit → Act → World → Prop}
/-- The look-up as a step of the walk. -/
theorem wpList_look (hg : o.guard = none) (m x : Operand) (t : TypeId) (c : Bool) (hop : o.op = Op.lookup t m x c) (k e : TypeId) (K : Keyed P k) (ht : P.underlying t = some (.map k e)) (z : Value) (hz : ∀ w : World, (zeroValue e).run P w = .ok z w) (b : Nat) (l : List (Value × Value))
    (hm : a.eval m = .map (some b)) (h : MapL P k w b l) (key : Value) (kl : Lit) (hx : a.eval x = key) (hkey : keyOf P k key = some kl)
    (h1 : Absent l key → wpList P ops Q rest (a.put o.dst (if c then .tuple #[z, .bool false] else z)) w)
    (h2 : ∀ v, Here l key v → wpList P ops Q rest (a.put o.dst (if c then .tuple #[v, .bool true] else v)) w) : wpList P ops Q (o :: rest) a w := by
  refine wpList_plain hg fun K' hK' => ?_
  unfold Oper.wp
  rcases h.look c K ht (hz w) hkey with ⟨hrun, hno⟩ | ⟨v, hv, hrun⟩
  · simp [execOp, hop, hm, hx, hrun, Result.andThen]
    exact hK' _ _ (h1 hno)
  · simp [execOp, hop, hm, hx, hrun, Result.andThen]
    exact hK' _ _ (h2 v hv)
theorem wpList_put (hg : o.guard = none) (m x y : Operand) (t : TypeId) (hop : o.op = Op.mapUpdate t m x y) (k e : TypeId) (K : Keyed P k) (ht : P.underlying t = some (.map k e)) (b : Nat) (l : List (Value × Value))
    (hm : a.eval m = .map (some b)) (h : MapL P k w b l) (hroom : l.length < maxLen) (key val : Value) (kl : Lit) (hx : a.eval x = key) (hy : a.eval y = val) (hkey : keyOf P k key = some kl)
    (hK : ∀ l' w', Hid (MapL P k w' b l') → Hid (Put l key val l') → Hid (w.grownBy w' (some b)) → Hid (wpList P ops Q rest (a.put o.dst undef) w')) : wpList P ops Q (o :: rest) a w := by
  refine wpList_plain hg fun K' hK' => ?_
  obtain ⟨l', w', hrun, h1, h2, h3⟩ := h.store K ht hroom val hkey
  unfold Oper.wp
  simp [execOp, hop, hm, hx, hy, hrun, Result.andThen]
  exact hK' _ _ (hK l' w' h1 h2 h3)
theorem wpList_drop (hg : o.guard = none) (m x : Operand) (t k : TypeId) (hop : o.op = Op.call { callee := Callee.builtin Builtin.delete, args := #[m, x], argTypes := #[t, k] })
    (e : TypeId) (K : Keyed P k) (ht : P.underlying t = some (.map k e)) (b : Nat) (l : List (Value × Value))
    (hm : a.eval m = .map (some b)) (h : MapL P k w b l) (key : Value) (kl : Lit) (hx : a.eval x = key) (hkey : keyOf P k key = some kl)
    (hK : ∀ l' w', Hid (MapL P k w' b l') → Hid (Del l key l') → Hid (w.grownBy w' (some b)) → Hid (wpList P ops Q rest (a.put o.dst (.tuple #[])) w')) : wpList P ops Q (o :: rest) a w := by
  refine wpList_plain hg fun K' hK' => ?_
  obtain ⟨l', w', hrun, h1, h2, h3⟩ := h.drop K ht o.type hkey
  unfold Oper.wp
  simp [execOp, hop, resolve, invoke, builtin, hm, hx, hrun, Result.andThen]
  exact hK' _ _ (hK l' w' h1 h2 h3)
end
end Go.Proofs.YtlhjkacdhfchiaaDoor.Km
