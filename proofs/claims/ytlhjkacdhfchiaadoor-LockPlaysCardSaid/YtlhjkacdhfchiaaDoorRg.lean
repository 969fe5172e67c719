/- A region that asks the tape for its order, walked in the order of the text: some operations (in one forced order among themselves) yield values that hang on the world; some, behind all of these that stand ahead of them, yield one that hangs on theirs; all others yield one value each. For any program. -/
import Derived.Test.YtlhjkacdhfchiaaDoorRk
namespace Go.Proofs.YtlhjkacdhfchiaaDoor.Rg
set_option linter.unusedVariables false
set_option linter.unusedSimpArgs false
set_option maxRecDepth 100000
open Go.Proofs.YtlhjkacdhfchiaaDoor.Rk
section
variable {P : Program} {ops : Array Oper} {md : Region.Mode} {T : List Value → World → Prop}
/-- The operation yields v in every world of every stage from h on, and keeps the stage. -/
def KeepsF (P : Program) (ops : Array Oper) (T : List Value → World → Prop) (h : List Value) (o : Oper) (v : Value) (a : Act) : Prop :=
  (Region.wanted o (yielded ops a.tmps) = true ∧ ∀ (h' : List Value) (w : World) (K : Value → World → Prop), T (h ++ h') w → (∀ w', T (h ++ h') w' → K v w') → kUpon P K ((execOp a.eval o).run P w)) ∨
  (Region.wanted o (yielded ops a.tmps) = false ∧ v = undef)
theorem KeepsF.up {h : List Value} {o : Oper} {v : Value} {a : Act} (hy : KeepsF P ops T h o v a) (u : Value) : KeepsF P ops T (h ++ [u]) o v a := by
  rcases hy with ⟨h1, h2⟩ | h
  · refine .inl ⟨h1, fun h' w K hT hK => ?_⟩
    rw [List.append_assoc] at hT
    refine h2 ([u] ++ h') w K hT (fun w' hT' => hK w' ?_)
    rw [List.append_assoc]; exact hT'
  · exact .inr h
theorem KeepsF.all {h : List Value} {o : Oper} {v : Value} {a : Act} (hy : KeepsF P ops T [] o v a) : KeepsF P ops T h o v a := by
  rcases hy with ⟨h1, h2⟩ | h
  · exact .inl ⟨h1, fun h' w K hT hK => h2 (h ++ h') w K hT hK⟩
  · exact .inr h
/-- The operation leads from this stage to the next one, whatever it yields (of the kind V). -/
def KeepsD (P : Program) (ops : Array Oper) (T : List Value → World → Prop) (h : List Value) (V : Value → Prop) (o : Oper) (a : Act) : Prop :=
  Region.wanted o (yielded ops a.tmps) = true ∧ (∃ v, V v) ∧ ∀ (w : World) (K : Value → World → Prop), T h w → (∀ v w', V v → T (h ++ [v]) w' → K v w') → kUpon P K ((execOp a.eval o).run P w)
theorem KeepsF.of_same {h : List Value} {o : Oper} {v : Value} {a a' : Act} (hy : KeepsF P ops T h o v a) (he : execOp a'.eval o = execOp a.eval o)
    (hw : Region.wanted o (yielded ops a'.tmps) = Region.wanted o (yielded ops a.tmps)) : KeepsF P ops T h o v a' := by
  unfold KeepsF at *
  rw [he, hw]
  exact hy
theorem KeepsD.of_same {h : List Value} {V : Value → Prop} {o : Oper} {a a' : Act} (hy : KeepsD P ops T h V o a) (he : execOp a'.eval o = execOp a.eval o)
    (hw : Region.wanted o (yielded ops a'.tmps) = Region.wanted o (yielded ops a.tmps)) : KeepsD P ops T h V o a' := by
  unfold KeepsD at *
  rw [he, hw]
  exact hy
/-- In whatever order; 'c k' is the value of the k-th operation; 'some none', if it hangs on those that hang on the world; none, if it hangs on the world itself. -/
def wpAnyD (P : Program) (md : Region.Mode) (ops : Array Oper) (T : List Value → World → Prop) (c : Nat → Option (Option Value)) (Q : Act → List Value → Prop) : Nat → Array Bool → Act → List Value → Prop
  | 0, listed, a, h => Region.ready md ops listed = [] ∧ Q a h
  | fuel + 1, listed, a, h => (Region.ready md ops listed = [] → Q a h) ∧
      ∀ i ∈ Region.ready md ops listed, ∀ o, ops[i]? = some o →
        (∀ v, c i = some (some v) → KeepsF P ops T [] o v a ∧ wpAnyD P md ops T c Q fuel (listed.setIfInBounds i true) (a.put o.dst v) h) ∧
        (c i = some none → ∃ v, KeepsF P ops T h o v a ∧ wpAnyD P md ops T c Q fuel (listed.setIfInBounds i true) (a.put o.dst v) h) ∧
        (c i = none → ∃ V : Value → Prop, KeepsD P ops T h V o a ∧ ∀ v, V v → wpAnyD P md ops T c Q fuel (listed.setIfInBounds i true) (a.put o.dst v) (h ++ [v]))
theorem wpAny_of_D {c : Nat → Option (Option Value)} {Q : Act → List Value → Prop} {Q' : Exit → Act → World → Prop} (hQ : ∀ a h, Q a h → ∀ w, T h w → Q' .normal a w) :
    ∀ (fuel : Nat) (listed : Array Bool) (a : Act) (h : List Value) (w : World), T h w → wpAnyD P md ops T c Q fuel listed a h → wpAny P md ops Q' fuel listed a w
  | 0, listed, a, h, w, hS, H => ⟨H.1, hQ a h H.2 w hS⟩
  | fuel + 1, listed, a, h, w, hS, H => by
    refine ⟨fun h0 => hQ a h (H.1 h0) w hS, fun i hi => ?_⟩
    unfold wpOp
    cases ho : ops[i]? with
    | none =>
      obtain ⟨_, o, hoo, _⟩ := mem_ready.1 hi
      rw [ho] at hoo; cases hoo
    | some o =>
      obtain ⟨hF, hG, hD⟩ := H.2 i hi o ho
      have both : ∀ v, KeepsF P ops T h o v a → wpAnyD P md ops T c Q fuel (listed.setIfInBounds i true) (a.put o.dst v) h → (if Region.wanted o (yielded ops a.tmps) = true then o.wp P a w (wpAny P md ops Q' fuel (listed.setIfInBounds i true)) Q' ∨ (o.asks P a w ∧ LetsOut Q') else wpAny P md ops Q' fuel (listed.setIfInBounds i true) (a.put o.dst undef) w) := by
        intro v hk hn
        have next : ∀ w', T h w' → wpAny P md ops Q' fuel (listed.setIfInBounds i true) (a.put o.dst v) w' := fun w' hS' => wpAny_of_D hQ fuel _ _ h w' hS' hn
        rcases hk with ⟨hw, hk⟩ | ⟨hw, rfl⟩
        · simp only [hw, if_true]
          refine Or.inl ?_
          have h1 := hk [] w (fun x w' => x = v ∧ T h w') (by rw [List.append_nil]; exact hS) (fun w' hS' => ⟨rfl, by rw [List.append_nil] at hS'; exact hS'⟩)
          unfold Oper.wp
          generalize (execOp a.eval o).run P w = r at h1
          cases r with
          | ok n w1 =>
            cases n <;> simp only [kUpon] at h1
            case value x => obtain ⟨rfl, h2⟩ := h1; exact next _ h2
            case skip => obtain ⟨rfl, h2⟩ := h1; exact next _ h2
            case enter f args =>
              show Calls P f args w1 _
              refine h1.mono fun e w2 he => ?_
              cases e with
              | returned x => obtain ⟨rfl, h2⟩ := he; exact next _ h2
              | panicked c => exact he.elim
              | outgrown => exact he.elim
          | halt x w1 => simp only [kUpon] at h1
        · simp only [hw, Bool.false_eq_true, if_false]
          exact next w hS
      cases hc : c i with
      | some ov =>
        cases ov with
        | some v =>
          obtain ⟨hk, hn⟩ := hF v hc
          exact both v hk.all hn
        | none =>
          obtain ⟨v, hk, hn⟩ := hG hc
          exact both v hk hn
      | none =>
        obtain ⟨V, ⟨hw, _, hk⟩, hn⟩ := hD hc
        have next : ∀ v w', V v ∧ T (h ++ [v]) w' → wpAny P md ops Q' fuel (listed.setIfInBounds i true) (a.put o.dst v) w' := fun v w' hS' => wpAny_of_D hQ fuel _ _ (h ++ [v]) w' hS'.2 (hn v hS'.1)
        simp only [hw, if_true]
        refine Or.inl ?_
        have h1 := hk w (fun x w' => V x ∧ T (h ++ [x]) w') hS (fun v w' hv hS' => ⟨hv, hS'⟩)
        unfold Oper.wp
        generalize (execOp a.eval o).run P w = r at h1
        cases r with
        | ok n w1 =>
          cases n <;> simp only [kUpon] at h1
          case value x => exact next _ _ h1
          case skip => exact next _ _ h1
          case enter f args =>
            show Calls P f args w1 _
            refine h1.mono fun e w2 he => ?_
            cases e with
            | returned x => exact next _ _ he
            | panicked c => exact he.elim
            | outgrown => exact he.elim
        | halt x w1 => simp only [kUpon] at h1
/-- Whether an operation waits for another one, by however many others. -/
def waits (md : Region.Mode) (ops : Array Oper) (i : Nat) : Nat → Nat → Bool
  | 0, _ => false
  | f + 1, j => match ops[j]? with
    | none => false
    | some o => o.after.any fun e => Region.binds md e && (e.on == i || waits md ops i f e.on)
/-- What is done has all done that it waits for. -/
def Closed (md : Region.Mode) (ops : Array Oper) (listed : Array Bool) : Prop :=
  ∀ k o, listed.getD k false = true → ops[k]? = some o → ∀ e ∈ o.after, Region.binds md e = true → listed.getD e.on false = true
theorem getD_both {listed : Array Bool} {i : Nat} (h : listed.getD i true = false) : listed.getD i false = false := by
  rcases Nat.lt_or_ge i listed.size with h' | h'
  · simpa [h'] using h
  · simp [Array.getElem?_eq_none h'] at h
theorem Closed.set {listed : Array Bool} {j : Nat} (hc : Closed md ops listed) (hj : j ∈ Region.ready md ops listed) : Closed md ops (listed.setIfInBounds j true) := by
  obtain ⟨hjun, oj, hoj, hall⟩ := mem_ready.1 hj
  have mono : ∀ x, listed.getD x false = true → (listed.setIfInBounds j true).getD x false = true := by
    intro x hx
    by_cases hxj : j = x
    · subst hxj
      rw [getD_both hjun] at hx; cases hx
    · rw [getD_set_ne false hxj]; exact hx
  intro k o hk ho e he hb
  by_cases hkj : j = k
  · subst hkj
    obtain rfl := Option.some.inj (hoj.symm.trans ho)
    exact mono _ (hall e he hb)
  · rw [getD_set_ne false hkj] at hk
    exact mono _ (hc k o hk ho e he hb)
theorem waits_not {listed : Array Bool} {i : Nat} (hc : Closed md ops listed) (hi : listed.getD i true = false) : ∀ f j o, ops[j]? = some o → waits md ops i f j = true → ¬ (∀ e ∈ o.after, Region.binds md e = true → listed.getD e.on false = true)
  | 0, j, o, ho, hw, _ => by simp [waits] at hw
  | f + 1, j, o, ho, hw, hall => by
    simp only [waits, ho, Array.any_eq_true', Bool.and_eq_true, Bool.or_eq_true, beq_iff_eq] at hw
    obtain ⟨e, he, hb, h⟩ := hw
    have hl := hall e he hb
    rcases h with h | h
    · rw [h, getD_both hi] at hl; cases hl
    · cases hoe : ops[e.on]? with
      | none =>
        cases f with
        | zero => simp [waits] at h
        | succ f => simp [waits, hoe] at h
      | some oe => exact waits_not hc hi f e.on oe hoe h (fun e' he' hb' => hc e.on oe hl hoe e' he' hb')
section
variable {c : Nat → Option (Option Value)} {Q : Act → List Value → Prop} {i : Nat} {oi : Oper}
/-- One of a known value can be taken first; 'p' is the stage from which on it has it. -/
theorem firstF {v : Value} (late : Bool) (hi : ops[i]? = some oi) (hci : c i = some (if late then none else some v)) (hsel : ∀ (j : Nat) (o : Oper) cs b, ops[j]? = some o → o.op ≠ .select cs b) :
    ∀ (fuel : Nat) (listed : Array Bool) (a : Act) (h : List Value),
      (∀ j oj, ops[j]? = some oj → j ≠ i → listed.getD j true = false → (∀ e ∈ oj.after, Region.binds md e = true → e.on ≠ i) → oi.apart ops oj = true) →
      i ∈ Region.ready md ops listed → KeepsF P ops T (if late then h else []) oi v a →
      wpAnyD P md ops T c Q fuel (listed.setIfInBounds i true) (a.put oi.dst v) h → wpAnyD P md ops T c Q (fuel + 1) listed a h := by
  intro fuel
  have atI : ∀ (f : Nat) (listed : Array Bool) (a : Act) (h : List Value), KeepsF P ops T (if late then h else []) oi v a → wpAnyD P md ops T c Q f (listed.setIfInBounds i true) (a.put oi.dst v) h →
      (∀ u, c i = some (some u) → KeepsF P ops T [] oi u a ∧ wpAnyD P md ops T c Q f (listed.setIfInBounds i true) (a.put oi.dst u) h) ∧
      (c i = some none → ∃ u, KeepsF P ops T h oi u a ∧ wpAnyD P md ops T c Q f (listed.setIfInBounds i true) (a.put oi.dst u) h) ∧
      (c i = none → ∃ V : Value → Prop, KeepsD P ops T h V oi a ∧ ∀ u, V u → wpAnyD P md ops T c Q f (listed.setIfInBounds i true) (a.put oi.dst u) (h ++ [u])) := by
    intro f listed a h hy H
    refine ⟨fun u hu => ?_, fun hn => ?_, fun hn => by rw [hci] at hn; cases hn⟩
    · cases late with
      | true => rw [hci] at hu; simp at hu
      | false =>
        rw [hci] at hu
        simp at hu
        subst hu
        exact ⟨hy, H⟩
    · cases late with
      | true => exact ⟨v, hy, H⟩
      | false => rw [hci] at hn; simp at hn
  induction fuel with
  | zero =>
    intro listed a h _ hr hy H
    refine ⟨fun h => (by rw [h] at hr; cases hr), fun j hj oj hoj => ?_⟩
    by_cases hji : j = i
    · subst hji
      obtain rfl := Option.some.inj (hi.symm.trans hoj)
      exact atI 0 listed a h hy H
    · have := ready_mono hj hji
      rw [H.1] at this
      cases this
  | succ fuel ih =>
    intro listed a h hfree hr hy H
    refine ⟨fun h => (by rw [h] at hr; cases hr), fun j hj oj hoj => ?_⟩
    by_cases hji : j = i
    · subst hji
      obtain rfl := Option.some.inj (hi.symm.trans hoj)
      exact atI (fuel + 1) listed a h hy H
    · obtain ⟨hF, hG, hD⟩ := H.2 j (ready_mono hj hji) oj hoj
      obtain ⟨hjun, oj', hoj', hall⟩ := mem_ready.1 hj
      obtain rfl := Option.some.inj (hoj.symm.trans hoj')
      have hnot : ∀ e ∈ oj.after, Region.binds md e = true → e.on ≠ i := fun e he hb heq => by
        have h1 := hall e he hb
        rw [heq, getD_both (mem_ready.1 hr).1] at h1
        cases h1
      have hap := hfree j oj hoj hji hjun hnot
      obtain ⟨a1, a2, a3⟩ := Oper.apart_spec hap
      have hsi := fun cs b => hsel i oi cs b hi
      have hsj := fun cs b => hsel j oj cs b hoj
      have hfree' : ∀ k ok, ops[k]? = some ok → k ≠ i → (listed.setIfInBounds j true).getD k true = false →
          (∀ e ∈ ok.after, Region.binds md e = true → e.on ≠ i) → oi.apart ops ok = true := fun k ok hk hki hun hno => by
        refine hfree k ok hk hki ?_ hno
        by_cases hjk : j = k
        · subst hjk; exact hjun
        · rw [getD_set_ne true hjk] at hun; exact hun
      refine ⟨fun u hu => ?_, fun hn => ?_, fun hn => ?_⟩
      · obtain ⟨hk, hnx⟩ := hF u hu
        refine ⟨hk.of_same (execOp_put oj hsj a oi.dst v a1).symm (wanted_put oj a oi.dst v a1).symm, ?_⟩
        refine ih (listed.setIfInBounds j true) (a.put oj.dst u) h hfree' (ready_mono hr (Ne.symm hji)) (hy.of_same (execOp_put oi hsi a oj.dst u a3) (wanted_put oi a oj.dst u a3)) ?_
        rw [Array.setIfInBounds_comm _ _ hji, ← Act.put_comm a v u a2]
        exact hnx
      · obtain ⟨u, hk, hnx⟩ := hG hn
        refine ⟨u, hk.of_same (execOp_put oj hsj a oi.dst v a1).symm (wanted_put oj a oi.dst v a1).symm, ?_⟩
        refine ih (listed.setIfInBounds j true) (a.put oj.dst u) h hfree' (ready_mono hr (Ne.symm hji)) (hy.of_same (execOp_put oi hsi a oj.dst u a3) (wanted_put oi a oj.dst u a3)) ?_
        rw [Array.setIfInBounds_comm _ _ hji, ← Act.put_comm a v u a2]
        exact hnx
      · obtain ⟨V, hk, hnx⟩ := hD hn
        refine ⟨V, hk.of_same (execOp_put oj hsj a oi.dst v a1).symm (wanted_put oj a oi.dst v a1).symm, fun u hu => ?_⟩
        have hy2 : KeepsF P ops T (if late then h ++ [u] else []) oi v a := by
          cases late with
          | true => exact hy.up u
          | false => exact hy
        refine ih (listed.setIfInBounds j true) (a.put oj.dst u) (h ++ [u]) hfree' (ready_mono hr (Ne.symm hji)) (hy2.of_same (execOp_put oi hsi a oj.dst u a3) (wanted_put oi a oj.dst u a3)) ?_
        rw [Array.setIfInBounds_comm _ _ hji, ← Act.put_comm a v u a2]
        exact hnx u hu
theorem firstD {V : Value → Prop} (hi : ops[i]? = some oi) (hci : c i = none) (hsel : ∀ (j : Nat) (o : Oper) cs b, ops[j]? = some o → o.op ≠ .select cs b) :
    ∀ (fuel : Nat) (listed : Array Bool) (a : Act) (h : List Value), Closed md ops listed →
      (∀ j, (∀ v, c j ≠ some (some v)) → j ≠ i → listed.getD j true = false → ∃ f, waits md ops i f j = true) →
      (∀ j oj, ops[j]? = some oj → j ≠ i → listed.getD j true = false → (∀ e ∈ oj.after, Region.binds md e = true → e.on ≠ i) → oi.apart ops oj = true) →
      i ∈ Region.ready md ops listed → KeepsD P ops T h V oi a →
      (∀ v, V v → wpAnyD P md ops T c Q fuel (listed.setIfInBounds i true) (a.put oi.dst v) (h ++ [v])) → wpAnyD P md ops T c Q (fuel + 1) listed a h := by
  intro fuel
  induction fuel with
  | zero =>
    intro listed a h _ _ _ hr hy H
    refine ⟨fun h => (by rw [h] at hr; cases hr), fun j hj oj hoj => ?_⟩
    by_cases hji : j = i
    · subst hji
      obtain rfl := Option.some.inj (hi.symm.trans hoj)
      exact ⟨fun u hu => absurd (hci.symm.trans hu) (fun e => by cases e), fun hu => absurd (hci.symm.trans hu) (fun e => by cases e), fun _ => ⟨V, hy, H⟩⟩
    · have := ready_mono hj hji
      obtain ⟨v0, hv0⟩ := hy.2.1
      rw [(H v0 hv0).1] at this
      cases this
  | succ fuel ih =>
    intro listed a h hcl hch hfree hr hy H
    refine ⟨fun h => (by rw [h] at hr; cases hr), fun j hj oj hoj => ?_⟩
    by_cases hji : j = i
    · subst hji
      obtain rfl := Option.some.inj (hi.symm.trans hoj)
      exact ⟨fun u hu => absurd (hci.symm.trans hu) (fun e => by cases e), fun hu => absurd (hci.symm.trans hu) (fun e => by cases e), fun _ => ⟨V, hy, H⟩⟩
    · obtain ⟨hjun, oj', hoj', hall⟩ := mem_ready.1 hj
      obtain rfl := Option.some.inj (hoj.symm.trans hoj')
      have hiun := (mem_ready.1 hr).1
      have hnot : ∀ e ∈ oj.after, Region.binds md e = true → e.on ≠ i := fun e he hb heq => by
        have h1 := hall e he hb
        rw [heq, getD_both hiun] at h1
        cases h1
      have hap := hfree j oj hoj hji hjun hnot
      obtain ⟨a1, a2, a3⟩ := Oper.apart_spec hap
      have hsi := fun cs b => hsel i oi cs b hi
      have hsj := fun cs b => hsel j oj cs b hoj
      have keepun : ∀ k, (listed.setIfInBounds j true).getD k true = false → listed.getD k true = false := fun k hun => by
        by_cases hjk : j = k
        · subst hjk; exact hjun
        · rw [getD_set_ne true hjk] at hun; exact hun
      have hfree' : ∀ k ok, ops[k]? = some ok → k ≠ i → (listed.setIfInBounds j true).getD k true = false →
          (∀ e ∈ ok.after, Region.binds md e = true → e.on ≠ i) → oi.apart ops ok = true := fun k ok hk hki hun hno => hfree k ok hk hki (keepun k hun) hno
      refine ⟨fun u hu => ?_, fun hn => ?_, fun hn => ?_⟩
      · have hall2 := fun v hv => ((H v hv).2 j (ready_mono hj hji) oj hoj).1 u hu
        obtain ⟨v0, hv0⟩ := hy.2.1
        refine ⟨(hall2 v0 hv0).1.of_same (execOp_put oj hsj a oi.dst v0 a1).symm (wanted_put oj a oi.dst v0 a1).symm, ?_⟩
        refine ih (listed.setIfInBounds j true) (a.put oj.dst u) h (hcl.set hj) (fun k hk hki hun => hch k hk hki (keepun k hun)) hfree' (ready_mono hr (Ne.symm hji)) (hy.of_same (execOp_put oi hsi a oj.dst u a3) (wanted_put oi a oj.dst u a3)) (fun v hv => ?_)
        rw [Array.setIfInBounds_comm _ _ hji, ← Act.put_comm a v u a2]
        exact (hall2 v hv).2
      · obtain ⟨f, hw⟩ := hch j (fun v hv => by rw [hn] at hv; cases hv) hji hjun
        exact absurd hall (waits_not hcl hiun f j oj hoj hw)
      · obtain ⟨f, hw⟩ := hch j (fun v hv => by rw [hn] at hv; cases hv) hji hjun
        exact absurd hall (waits_not hcl hiun f j oj hoj hw)
end
/-- The walk in the order of the text. -/
def wpLexD (P : Program) (ops : Array Oper) (T : List Value → World → Prop) (Q : Act → List Value → Prop) : List Oper → List (Option (Option Value)) → Act → List Value → Prop
  | [], _, a, h => Q a h
  | o :: l, some (some v) :: cs, a, h => KeepsF P ops T [] o v a ∧ wpLexD P ops T Q l cs (a.put o.dst v) h
  | o :: l, some none :: cs, a, h => ∃ v, KeepsF P ops T h o v a ∧ wpLexD P ops T Q l cs (a.put o.dst v) h
  | o :: l, none :: cs, a, h => ∃ V : Value → Prop, KeepsD P ops T h V o a ∧ ∀ v, V v → wpLexD P ops T Q l cs (a.put o.dst v) (h ++ [v])
  | _ :: _, [], _, _ => False
/-- Those whose values hang on the world, and those that hang on them, wait for the former that stand ahead of them. -/
def chainD (md : Region.Mode) (ops : Array Oper) (ds gs : List Nat) : Bool :=
  ds.all fun i => gs.all fun j => decide (j ≤ i) || waits md ops i ops.size j
def nones : List (Option (Option Value)) → Nat → List Nat
  | [], _ => []
  | none :: l, k => k :: nones l (k + 1)
  | some _ :: l, k => nones l (k + 1)
def lates : List (Option (Option Value)) → Nat → List Nat
  | [], _ => []
  | none :: l, k => k :: lates l (k + 1)
  | some none :: l, k => k :: lates l (k + 1)
  | some (some _) :: l, k => lates l (k + 1)
theorem nones_mem : ∀ (l : List (Option (Option Value))) (k j : Nat), l[j]? = some none → k + j ∈ nones l k
  | [], k, j, h => by simp at h
  | none :: l, k, 0, h => by simp [nones]
  | none :: l, k, j + 1, h => by
    have := nones_mem l (k + 1) j (by simpa using h)
    rw [nones]
    exact List.mem_cons_of_mem _ (by rwa [show k + (j + 1) = k + 1 + j by omega])
  | some _ :: l, k, 0, h => by simp at h
  | some _ :: l, k, j + 1, h => by
    have := nones_mem l (k + 1) j (by simpa using h)
    rw [nones]
    rwa [show k + (j + 1) = k + 1 + j by omega]
theorem lates_mem : ∀ (l : List (Option (Option Value))) (k j : Nat) (x : Option (Option Value)), l[j]? = some x → (∀ v, x ≠ some (some v)) → k + j ∈ lates l k
  | [], k, j, x, h, _ => by simp at h
  | none :: l, k, 0, x, h, _ => by simp [lates]
  | none :: l, k, j + 1, x, h, hx => by
    have := lates_mem l (k + 1) j x (by simpa using h) hx
    rw [lates]
    exact List.mem_cons_of_mem _ (by rwa [show k + (j + 1) = k + 1 + j by omega])
  | some none :: l, k, 0, x, h, _ => by simp [lates]
  | some none :: l, k, j + 1, x, h, hx => by
    have := lates_mem l (k + 1) j x (by simpa using h) hx
    rw [lates]
    exact List.mem_cons_of_mem _ (by rwa [show k + (j + 1) = k + 1 + j by omega])
  | some (some v) :: l, k, 0, x, h, hx => by
    simp at h
    exact absurd h.symm (hx v)
  | some (some _) :: l, k, j + 1, x, h, hx => by
    have := lates_mem l (k + 1) j x (by simpa using h) hx
    rw [lates]
    rwa [show k + (j + 1) = k + 1 + j by omega]
theorem lexD {c : Nat → Option (Option Value)} {Q : Act → List Value → Prop} (hs : Region.noSelect ops = true) (hch : ∀ i j, c i = none → (∀ v, c j ≠ some (some v)) → i < j → ∃ f, waits md ops i f j = true) :
    ∀ (l : List Oper) (cs : List (Option (Option Value))) (k : Nat) (listed : Array Bool) (a : Act) (h : List Value), (∀ j, l[j]? = ops[k + j]?) → (∀ j x, cs[j]? = some x → c (k + j) = x) →
    Closed md ops listed → (∀ j, j < k → listed.getD j true = true) →
    Region.lexFrom md ops l.length k listed = true → wpLexD P ops T Q l cs a h → wpAnyD P md ops T c Q l.length listed a h
  | [], _, _, _, _, _, _, _, _, _, hB, H => ⟨by simpa [Region.lexFrom] using hB, by simpa [wpLexD] using H⟩
  | o :: l, [], _, _, _, _, _, _, _, _, _, H => by simp [wpLexD] at H
  | o :: l, x :: cs, k, listed, a, h, hl, hcs, hcl, hlt, hB, H => by
    have h0 : ops[k]? = some o := by simpa using (hl 0).symm
    have hck : c k = x := by simpa using hcs 0 x (by simp)
    simp only [List.length_cons, Region.lexFrom, Bool.and_eq_true] at hB
    obtain ⟨⟨hr, hf⟩, hB'⟩ := hB
    have hr' : k ∈ Region.ready md ops listed := by simpa using hr
    have hl' : ∀ j, l[j]? = ops[k + 1 + j]? := fun j => by have := hl (j + 1); simpa [Nat.add_assoc, Nat.add_comm 1 j] using this
    have hcs' : ∀ j y, cs[j]? = some y → c (k + 1 + j) = y := fun j y hy => by
      have := hcs (j + 1) y (by simpa using hy)
      rwa [show k + 1 + j = k + (j + 1) by omega]
    have hlt' : ∀ j, j < k + 1 → (listed.setIfInBounds k true).getD j true = true := fun j hj => by
      by_cases e : k = j
      · subst e
        rcases Nat.lt_or_ge k listed.size with h' | h'
        · simp [h']
        · simp [h']
      · rw [getD_set_ne true e]; exact hlt j (by omega)
    match x, hck, H with
    | some (some v), hck, H =>
      obtain ⟨hy, hK⟩ := H
      exact firstF false h0 hck (Region.noSelect_spec hs) l.length listed a h (Region.free_spec h0 hf) hr' hy (lexD hs hch l cs (k + 1) _ _ h hl' hcs' (hcl.set hr') hlt' hB' hK)
    | some none, hck, H =>
      obtain ⟨v, hy, hK⟩ := H
      exact firstF (v := v) true h0 hck (Region.noSelect_spec hs) l.length listed a h (Region.free_spec h0 hf) hr' hy (lexD hs hch l cs (k + 1) _ _ h hl' hcs' (hcl.set hr') hlt' hB' hK)
    | none, hck, H =>
      obtain ⟨V, hy, hK⟩ := H
      refine firstD h0 hck (Region.noSelect_spec hs) l.length listed a h hcl (fun j hj hjk hun => ?_) (Region.free_spec h0 hf) hr' hy (fun v hv => lexD hs hch l cs (k + 1) _ _ (h ++ [v]) hl' hcs' (hcl.set hr') hlt' hB' (hK v hv))
      refine hch k j hck hj ?_
      rcases Nat.lt_or_ge k j with h1 | h1
      · exact h1
      · have := hlt j (by omega)
        rw [hun] at this; cases this
/-- The region. -/
theorem wp_region_g {id : Nat} {Q : Exit → Act → World → Prop} {a : Act} {w : World} {l : List Oper} (T : List Value → World → Prop) (cs : List (Option (Option Value))) (hm : P.follows .mixedOrders = true) (hB : Region.lexB .any l.toArray = true) (ds gs : List Nat) (hds : nones cs 0 = ds) (hgs : lates cs 0 = gs) (hD : chainD .any l.toArray ds gs = true) (hS : T [] w.drew)
    (h : wpLexD P l.toArray T (fun a' h' => ∀ w', T h' w' → Q .normal a' w') l cs a []) : (Code.region id l.toArray true).wp P Q a w := by
  simp only [Region.lexB, Bool.and_eq_true] at hB
  refine wp_region_any hm (wpAny_of_D (T := T) (c := fun k => (cs[k]?).getD (some (some undef))) (Q := fun a' h' => ∀ w', T h' w' → Q .normal a' w') (fun _ _ h => h) _ _ _ [] _ hS ?_)
  have hch : ∀ i j, (cs[i]?).getD (some (some undef)) = none → (∀ v, (cs[j]?).getD (some (some undef)) ≠ some (some v)) → i < j → ∃ f, waits .any l.toArray i f j = true := by
    intro i j hi hj hij
    have mi : i ∈ ds := by
      rw [← hds]
      cases hx : cs[i]? with
      | none => rw [hx] at hi; cases hi
      | some x =>
        rw [hx] at hi
        have := nones_mem cs 0 i (by rw [hx]; exact congrArg some hi)
        rwa [Nat.zero_add] at this
    have mj : j ∈ gs := by
      rw [← hgs]
      cases hx : cs[j]? with
      | none => rw [hx] at hj; exact absurd rfl (hj undef)
      | some x =>
        rw [hx] at hj
        have := lates_mem cs 0 j x hx hj
        rwa [Nat.zero_add] at this
    unfold chainD at hD
    have h1 := List.all_eq_true.1 (List.all_eq_true.1 hD i mi) j mj
    simp only [Bool.or_eq_true, decide_eq_true_eq] at h1
    rcases h1 with h1 | h1
    · omega
    · exact ⟨_, h1⟩
  have := lexD (md := .any) (T := T) hB.1 hch l cs 0 (Array.replicate l.toArray.size false) a [] (by simp) (fun j x hx => by simp [hx]) (fun k o hk => by simp [Array.getElem?_replicate] at hk; split at hk <;> simp at hk) (fun j hj => by omega) (by simpa using hB.2) h
  simpa using this
/-- One value, at any stage. -/
theorem gF_step {Q : Act → List Value → Prop} {o : Oper} {l : List Oper} {v : Value} {cs : List (Option (Option Value))} {a : Act} {h : List Value} (hw : Region.wanted o (yielded ops a.tmps) = true)
    (hk : ∀ (h : List Value) (w : World) (K : Value → World → Prop), T h w → (∀ w', T h w' → K v w') → kUpon P K ((execOp a.eval o).run P w)) (hn : wpLexD P ops T Q l cs (a.put o.dst v) h) : wpLexD P ops T Q (o :: l) (some (some v) :: cs) a h := ⟨.inl ⟨hw, fun h' w K hT hK => hk h' w K hT hK⟩, hn⟩
theorem gF_not {Q : Act → List Value → Prop} {o : Oper} {l : List Oper} {cs : List (Option (Option Value))} {a : Act} {h : List Value} (hw : Region.wanted o (yielded ops a.tmps) = false) (hn : wpLexD P ops T Q l cs (a.put o.dst undef) h) : wpLexD P ops T Q (o :: l) (some (some undef) :: cs) a h := ⟨.inr ⟨hw, rfl⟩, hn⟩
/-- A value that hangs on those before, from this stage on. -/
theorem gG_step {Q : Act → List Value → Prop} {o : Oper} {l : List Oper} {v : Value} {cs : List (Option (Option Value))} {a : Act} {h : List Value} (hw : Region.wanted o (yielded ops a.tmps) = true)
    (hk : ∀ (h' : List Value) (w : World) (K : Value → World → Prop), T (h ++ h') w → (∀ w', T (h ++ h') w' → K v w') → kUpon P K ((execOp a.eval o).run P w)) (hn : wpLexD P ops T Q l cs (a.put o.dst v) h) : wpLexD P ops T Q (o :: l) (some none :: cs) a h := ⟨v, .inl ⟨hw, hk⟩, hn⟩
theorem gG_not {Q : Act → List Value → Prop} {o : Oper} {l : List Oper} {cs : List (Option (Option Value))} {a : Act} {h : List Value} (hw : Region.wanted o (yielded ops a.tmps) = false) (hn : wpLexD P ops T Q l cs (a.put o.dst undef) h) : wpLexD P ops T Q (o :: l) (some none :: cs) a h := ⟨undef, .inr ⟨hw, rfl⟩, hn⟩
/-- A value that hangs on the world, of the kind V. -/
theorem gD_step {Q : Act → List Value → Prop} {o : Oper} {l : List Oper} {cs : List (Option (Option Value))} {a : Act} {h : List Value} (V : Value → Prop) (hV : ∃ v, V v) (hw : Region.wanted o (yielded ops a.tmps) = true)
    (hk : ∀ (w : World) (K : Value → World → Prop), T h w → (∀ v w', V v → T (h ++ [v]) w' → K v w') → kUpon P K ((execOp a.eval o).run P w)) (hn : ∀ v, V v → wpLexD P ops T Q l cs (a.put o.dst v) (h ++ [v])) : wpLexD P ops T Q (o :: l) (none :: cs) a h := ⟨V, ⟨hw, hV, hk⟩, hn⟩
/-- One whose value is v, at this stage alone. -/
theorem gE_step {Q : Act → List Value → Prop} {o : Oper} {l : List Oper} {v : Value} {cs : List (Option (Option Value))} {a : Act} {h : List Value} (hw : Region.wanted o (yielded ops a.tmps) = true)
    (hk : ∀ (w : World) (K : Value → World → Prop), T h w → (∀ w', T (h ++ [v]) w' → K v w') → kUpon P K ((execOp a.eval o).run P w)) (hn : wpLexD P ops T Q l cs (a.put o.dst v) (h ++ [v])) : wpLexD P ops T Q (o :: l) (none :: cs) a h :=
  ⟨fun x => x = v, ⟨hw, ⟨v, rfl⟩, fun w K hT hK => hk w K hT (fun w' => hK v w' rfl)⟩, fun x hx => by subst hx; exact hn⟩
theorem g_nil {Q : Act → List Value → Prop} {cs : List (Option (Option Value))} {a : Act} {h : List Value} (hq : Q a h) : wpLexD P ops T Q [] cs a h := by simpa [wpLexD] using hq
end
end Go.Proofs.YtlhjkacdhfchiaaDoor.Rg
