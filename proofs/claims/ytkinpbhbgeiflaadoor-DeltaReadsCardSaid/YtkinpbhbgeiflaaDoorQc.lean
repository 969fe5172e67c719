/- Several texts, one behind the other. -/
import Derived.Still
import Derived.StillTail
import Derived.KernelRfl
import Derived.Tactics
import Derived.Test.YtkinpbhbgeiflaaDoorQb
import Derived.Laws.IdiomStrings
import Derived.Deep.QuietTactic
import Derived.BigQuiet
import Derived.IntWalk
import Derived.OwnWalk
/- A region that asks the tape for its order, walked in the order of the text: every operation yields one value in all worlds that meet a condition, and keeps the condition; calls that make memory are let in. For any program. -/
namespace Go.Proofs.YtkinpbhbgeiflaaDoor.Rk
set_option linter.unusedVariables false
set_option linter.unusedSimpArgs false
set_option maxRecDepth 100000
section
variable {P : Program} {ops : Array Oper} {md : Region.Mode} {S : World → Prop}

/-- What an operation's run comes to, handed on. -/
def kUpon (P : Program) (K : Value → World → Prop) : Result Next → Prop
  | .ok (.value x) w => K x w
  | .ok .skip w => K undef w
  | .ok (.enter f args) w => Calls P f args w fun
      | .returned x, w' => K x w'
      | _, _ => False
  | _ => False
theorem kUpon_value (K : Value → World → Prop) (x : Value) (w : World) : kUpon P K (.ok (.value x) w) = K x w := rfl
theorem kUpon_skip (K : Value → World → Prop) (w : World) : kUpon P K (.ok .skip w) = K undef w := rfl
theorem kUpon_enter (K : Value → World → Prop) (f : FuncId) (args : Array Value) (w : World) : kUpon P K (.ok (.enter f args) w) = Calls P f args w fun
      | .returned x, w' => K x w'
      | _, _ => False := rfl
/-- The operation yields v in every world that meets S, and keeps S. -/
def Keeps (P : Program) (ops : Array Oper) (S : World → Prop) (o : Oper) (v : Value) (a : Act) : Prop :=
  (Region.wanted o (yielded ops a.tmps) = true ∧ ∀ (w : World) (K : Value → World → Prop), S w → (∀ w', S w' → K v w') → kUpon P K ((execOp a.eval o).run P w)) ∨
  (Region.wanted o (yielded ops a.tmps) = false ∧ v = undef)
theorem Keeps.of_same {o : Oper} {v : Value} {a a' : Act} (hy : Keeps P ops S o v a) (he : execOp a'.eval o = execOp a.eval o)
    (hw : Region.wanted o (yielded ops a'.tmps) = Region.wanted o (yielded ops a.tmps)) : Keeps P ops S o v a' := by
  unfold Keeps at *
  rw [he, hw]
  exact hy
/-- In whatever order. -/
def wpAnyK (P : Program) (md : Region.Mode) (ops : Array Oper) (S : World → Prop) (Q : Act → Prop) : Nat → Array Bool → Act → Prop
  | 0, listed, a => Region.ready md ops listed = [] ∧ Q a
  | fuel + 1, listed, a => (Region.ready md ops listed = [] → Q a) ∧
      ∀ i ∈ Region.ready md ops listed, ∀ o, ops[i]? = some o → ∃ v, Keeps P ops S o v a ∧ wpAnyK P md ops S Q fuel (listed.setIfInBounds i true) (a.put o.dst v)
theorem wpAny_of_K {Q : Act → Prop} {Q' : Exit → Act → World → Prop} (hQ : ∀ a, Q a → ∀ w, S w → Q' .normal a w) :
    ∀ (fuel : Nat) (listed : Array Bool) (a : Act) (w : World), S w → wpAnyK P md ops S Q fuel listed a → wpAny P md ops Q' fuel listed a w
  | 0, listed, a, w, hS, h => ⟨h.1, hQ a h.2 w hS⟩
  | fuel + 1, listed, a, w, hS, h => by
    refine ⟨fun h0 => hQ a (h.1 h0) w hS, fun i hi => ?_⟩
    unfold wpOp
    cases ho : ops[i]? with
    | none =>
      obtain ⟨_, o, hoo, _⟩ := mem_ready.1 hi
      rw [ho] at hoo; cases hoo
    | some o =>
      obtain ⟨v, hk, hn⟩ := h.2 i hi o ho
      have next : ∀ w', S w' → wpAny P md ops Q' fuel (listed.setIfInBounds i true) (a.put o.dst v) w' := fun w' hS' => wpAny_of_K hQ fuel _ _ w' hS' hn
      rcases hk with ⟨hw, hk⟩ | ⟨hw, rfl⟩
      · simp only [hw, if_true]
        refine Or.inl ?_
        have h1 := hk w (fun x w' => x = v ∧ S w') hS (fun w' hS' => ⟨rfl, hS'⟩)
        unfold Oper.wp
        generalize (execOp a.eval o).run P w = r at h1
        cases r with
        | ok n w1 =>
          cases n <;> simp only [kUpon] at h1
          case value x => obtain ⟨rfl, h2⟩ := h1; exact next _ h2
          case skip => obtain ⟨rfl, h2⟩ := h1; exact next _ h2
          case enter f args =>
            show Calls P f args w1 _
            refine h1.mono fun e w2 he => ?_
            cases e with
            | returned x => obtain ⟨rfl, h2⟩ := he; exact next _ h2
            | panicked c => exact he.elim
            | outgrown => exact he.elim
        | halt x w1 => simp only [kUpon] at h1
      · simp only [hw, Bool.false_eq_true, if_false]
        exact next w hS
/-- One that may come up can be taken first. -/
theorem wpAnyK_first {Q : Act → Prop} {i : Nat} {oi : Oper} {v : Value} (hi : ops[i]? = some oi) (hsel : ∀ (j : Nat) (o : Oper) cs b, ops[j]? = some o → o.op ≠ .select cs b) :
    ∀ (fuel : Nat) (listed : Array Bool) (a : Act),
      (∀ j oj, ops[j]? = some oj → j ≠ i → listed.getD j true = false → (∀ e ∈ oj.after, Region.binds md e = true → e.on ≠ i) → oi.apart ops oj = true) →
      i ∈ Region.ready md ops listed → Keeps P ops S oi v a →
      wpAnyK P md ops S Q fuel (listed.setIfInBounds i true) (a.put oi.dst v) → wpAnyK P md ops S Q (fuel + 1) listed a := by
  intro fuel
  induction fuel with
  | zero =>
    intro listed a _ hr hy H
    refine ⟨fun h => (by rw [h] at hr; cases hr), fun j hj oj hoj => ?_⟩
    by_cases hji : j = i
    · subst hji
      obtain rfl := Option.some.inj (hi.symm.trans hoj)
      exact ⟨v, hy, H⟩
    · have := ready_mono hj hji
      rw [H.1] at this
      cases this
  | succ fuel ih =>
    intro listed a hfree hr hy H
    refine ⟨fun h => (by rw [h] at hr; cases hr), fun j hj oj hoj => ?_⟩
    by_cases hji : j = i
    · subst hji
      obtain rfl := Option.some.inj (hi.symm.trans hoj)
      exact ⟨v, hy, H⟩
    · obtain ⟨u, hu, hn⟩ := H.2 j (ready_mono hj hji) oj hoj
      obtain ⟨hjun, oj', hoj', hall⟩ := mem_ready.1 hj
      obtain rfl := Option.some.inj (hoj.symm.trans hoj')
      have hnot : ∀ e ∈ oj.after, Region.binds md e = true → e.on ≠ i := fun e he hb heq => by
        have h1 := hall e he hb
        have h0 := (mem_ready.1 hr).1
        rw [heq] at h1
        rcases Nat.lt_or_ge i listed.size with h' | h'
        · simp [h'] at h0 h1; rw [h0] at h1; cases h1
        · simp [Array.getElem?_eq_none h'] at h1
      have hap := hfree j oj hoj hji hjun hnot
      obtain ⟨a1, a2, a3⟩ := Oper.apart_spec hap
      have hsi := fun cs b => hsel i oi cs b hi
      have hsj := fun cs b => hsel j oj cs b hoj
      have hfree' : ∀ k ok, ops[k]? = some ok → k ≠ i → (listed.setIfInBounds j true).getD k true = false →
          (∀ e ∈ ok.after, Region.binds md e = true → e.on ≠ i) → oi.apart ops ok = true := fun k ok hk hki hun hno => by
        refine hfree k ok hk hki ?_ hno
        by_cases hjk : j = k
        · subst hjk; exact hjun
        · rw [getD_set_ne true hjk] at hun; exact hun
      refine ⟨u, hu.of_same (execOp_put oj hsj a oi.dst v a1).symm (wanted_put oj a oi.dst v a1).symm, ?_⟩
      refine ih (listed.setIfInBounds j true) (a.put oj.dst u) hfree' (ready_mono hr (Ne.symm hji)) (hy.of_same (execOp_put oi hsi a oj.dst u a3) (wanted_put oi a oj.dst u a3)) ?_
      rw [Array.setIfInBounds_comm _ _ hji, ← Act.put_comm a v u a2]
      exact hn
/-- The walk in the order of the text. -/
def wpKeep (P : Program) (ops : Array Oper) (S : World → Prop) (Q : Act → Prop) : List Oper → Act → Prop
  | [], a => Q a
  | o :: l, a => ∃ v, Keeps P ops S o v a ∧ wpKeep P ops S Q l (a.put o.dst v)
theorem wpAnyK_lex {Q : Act → Prop} (hs : Region.noSelect ops = true) : ∀ (l : List Oper) (k : Nat) (listed : Array Bool) (a : Act), (∀ j, l[j]? = ops[k + j]?) →
    Region.lexFrom md ops l.length k listed = true → wpKeep P ops S Q l a → wpAnyK P md ops S Q l.length listed a
  | [], _, _, _, _, hB, h => ⟨by simpa [Region.lexFrom] using hB, h⟩
  | o :: l, k, listed, a, hl, hB, h => by
    have h0 : ops[k]? = some o := by simpa using (hl 0).symm
    simp only [List.length_cons, Region.lexFrom, Bool.and_eq_true] at hB
    obtain ⟨⟨hr, hf⟩, hB'⟩ := hB
    obtain ⟨v, hy, hK⟩ := h
    exact wpAnyK_first h0 (Region.noSelect_spec hs) l.length listed a (Region.free_spec h0 hf) (by simpa using hr) hy
      (wpAnyK_lex hs l (k + 1) _ _ (fun j => by have := hl (j + 1); simpa [Nat.add_assoc, Nat.add_comm 1 j] using this) hB' hK)
/-- The region. -/
theorem wp_region_keep {id : Nat} {Q : Exit → Act → World → Prop} {a : Act} {w : World} {l : List Oper} (S : World → Prop) (hm : P.follows .mixedOrders = true) (hB : Region.lexB .any l.toArray = true) (hS : S w.drew)
    (h : wpKeep P l.toArray S (fun a' => ∀ w', S w' → Q .normal a' w') l a) : (Code.region id l.toArray true).wp P Q a w := by
  simp only [Region.lexB, Bool.and_eq_true] at hB
  refine wp_region_any hm (wpAny_of_K (S := S) (Q := fun a' => ∀ w', S w' → Q .normal a' w') (fun _ h => h) _ _ _ _ hS ?_)
  have := wpAnyK_lex (md := .any) (S := S) hB.1 l 0 (Array.replicate l.toArray.size false) a (by simp) (by simpa using hB.2) h
  simpa using this
/-- The same with a tail whose operations come in one forced order behind all others. -/
def wpAnyT (P : Program) (md : Region.Mode) (ops : Array Oper) (S : World → Prop) (n : Nat) (L : Array Bool → Act → Prop) : Nat → Array Bool → Act → Prop
  | 0, listed, a => L listed a
  | f + 1, listed, a => Region.ready md ops listed ≠ [] ∧
      ∀ i ∈ Region.ready md ops listed, i < n ∧ ∀ o, ops[i]? = some o → ∃ v, Keeps P ops S o v a ∧ wpAnyT P md ops S n L f (listed.setIfInBounds i true) (a.put o.dst v)
theorem wpOp_of_keeps {Q' : Exit → Act → World → Prop} {K : Act → World → Prop} {i : Nat} {o : Oper} {v : Value} {a : Act} {w : World} (ho : ops[i]? = some o) (hS : S w) (hk : Keeps P ops S o v a) (next : ∀ w', S w' → K (a.put o.dst v) w') : wpOp P ops Q' i K a w := by
  unfold wpOp
  simp only [ho]
  rcases hk with ⟨hw, hk⟩ | ⟨hw, rfl⟩
  · simp only [hw, if_true]
    refine Or.inl ?_
    have h1 := hk w (fun x w' => x = v ∧ S w') hS (fun w' hS' => ⟨rfl, hS'⟩)
    unfold Oper.wp
    generalize (execOp a.eval o).run P w = r at h1
    cases r with
    | ok n w1 =>
      cases n <;> simp only [kUpon] at h1
      case value x => obtain ⟨rfl, h2⟩ := h1; exact next _ h2
      case skip => obtain ⟨rfl, h2⟩ := h1; exact next _ h2
      case enter f args =>
        show Calls P f args w1 _
        refine h1.mono fun e w2 he => ?_
        cases e with
        | returned x => obtain ⟨rfl, h2⟩ := he; exact next _ h2
        | panicked c => exact he.elim
        | outgrown => exact he.elim
    | halt x w1 => simp only [kUpon] at h1
  · simp only [hw, Bool.false_eq_true, if_false]
    exact next w hS
theorem wpAny_of_T {n g : Nat} {L : Array Bool → Act → Prop} {Q' : Exit → Act → World → Prop} (hL : ∀ listed a, L listed a → ∀ w, S w → wpAny P md ops Q' g listed a w) :
    ∀ (f : Nat) (listed : Array Bool) (a : Act) (w : World), S w → wpAnyT P md ops S n L f listed a → wpAny P md ops Q' (f + g) listed a w
  | 0, listed, a, w, hS, h => by rw [Nat.zero_add]; exact hL _ _ h w hS
  | f + 1, listed, a, w, hS, h => by
    rw [show f + 1 + g = (f + g) + 1 by omega]
    refine ⟨fun h0 => absurd h0 h.1, fun i hi => ?_⟩
    obtain ⟨_, o, ho, _⟩ := mem_ready.1 hi
    obtain ⟨v, hk, hn⟩ := (h.2 i hi).2 o ho
    exact wpOp_of_keeps ho hS hk fun w' hS' => wpAny_of_T hL f _ _ w' hS' hn
theorem wpAnyT_first {n i : Nat} {oi : Oper} {v : Value} {L : Array Bool → Act → Prop} (hi : ops[i]? = some oi) (hsel : ∀ (j : Nat) (o : Oper) cs b, ops[j]? = some o → o.op ≠ .select cs b)
    (hs : Region.sinkB md ops n = true) (hc : Region.chainB md ops n = true) (hn : n < ops.size) (hin : i < n)
    (hdone : ∀ listed a, L listed a → ∀ j ∈ Region.ready md ops listed, n ≤ j) :
    ∀ (f : Nat) (listed : Array Bool) (a : Act), HeadInv md ops n listed →
      (∀ j oj, ops[j]? = some oj → j ≠ i → listed.getD j true = false → (∀ e ∈ oj.after, Region.binds md e = true → e.on ≠ i) → oi.apart ops oj = true) →
      i ∈ Region.ready md ops listed → Keeps P ops S oi v a →
      wpAnyT P md ops S n L f (listed.setIfInBounds i true) (a.put oi.dst v) → wpAnyT P md ops S n L (f + 1) listed a := by
  intro f
  induction f with
  | zero =>
    intro listed a inv _ hr hy H
    have hun := (mem_ready.1 hr).1
    refine ⟨fun h => (by rw [h] at hr; cases hr), fun j hj => ?_⟩
    have hjn : j < n := by
      rcases Nat.lt_or_ge j n with h | h
      · exact h
      · exact absurd hj (tail_waits hs hc hn inv _ i rfl hin hun j h)
    refine ⟨hjn, fun oj hoj => ?_⟩
    by_cases hji : j = i
    · subst hji
      obtain rfl := Option.some.inj (hi.symm.trans hoj)
      exact ⟨v, hy, H⟩
    · have := hdone _ _ H j (ready_mono hj hji)
      omega
  | succ f ih =>
    intro listed a inv hfree hr hy H
    have hun := (mem_ready.1 hr).1
    refine ⟨fun h => (by rw [h] at hr; cases hr), fun j hj => ?_⟩
    have hjn : j < n := by
      rcases Nat.lt_or_ge j n with h | h
      · exact h
      · exact absurd hj (tail_waits hs hc hn inv _ i rfl hin hun j h)
    refine ⟨hjn, fun oj hoj => ?_⟩
    by_cases hji : j = i
    · subst hji
      obtain rfl := Option.some.inj (hi.symm.trans hoj)
      exact ⟨v, hy, H⟩
    · obtain ⟨u, hu, hnx⟩ := (H.2 j (ready_mono hj hji)).2 oj hoj
      obtain ⟨hjun, oj', hoj', hall⟩ := mem_ready.1 hj
      obtain rfl := Option.some.inj (hoj.symm.trans hoj')
      have hnot : ∀ e ∈ oj.after, Region.binds md e = true → e.on ≠ i := fun e he hb heq => by
        have h1 := hall e he hb
        rw [heq, getD_both hun] at h1
        cases h1
      obtain ⟨a1, a2, a3⟩ := Oper.apart_spec (hfree j oj hoj hji hjun hnot)
      have hsi := fun cs b => hsel i oi cs b hi
      have hsj := fun cs b => hsel j oj cs b hoj
      have hfree' : ∀ k ok, ops[k]? = some ok → k ≠ i → (listed.setIfInBounds j true).getD k true = false →
          (∀ e ∈ ok.after, Region.binds md e = true → e.on ≠ i) → oi.apart ops ok = true := fun k ok hk hki hun hno => by
        refine hfree k ok hk hki ?_ hno
        by_cases hjk : j = k
        · subst hjk; exact hjun
        · rw [getD_set_ne true hjk] at hun; exact hun
      refine ⟨u, hu.of_same (execOp_put oj hsj a oi.dst v a1).symm (wanted_put oj a oi.dst v a1).symm, ?_⟩
      refine ih (listed.setIfInBounds j true) (a.put oj.dst u) (inv.set hj hjn) hfree' (ready_mono hr (Ne.symm hji)) (hy.of_same (execOp_put oi hsi a oj.dst u a3) (wanted_put oi a oj.dst u a3)) ?_
      rw [Array.setIfInBounds_comm _ _ hji, ← Act.put_comm a v u a2]
      exact hnx
theorem wpAnyT_lex {n g : Nat} {Lq : Act → Prop} (hsel : Region.noSelect ops = true) (hs : Region.sinkB md ops n = true) (hc : Region.chainB md ops n = true) (hn : n < ops.size) :
    ∀ (l : List Oper) (k : Nat) (listed : Array Bool) (a : Act), (∀ j, j < l.length → l[j]? = ops[k + j]?) → k + l.length = n → HeadInv md ops n listed →
    Region.lexHead md ops g l.length k listed = true → wpKeep P ops S Lq l a →
    wpAnyT P md ops S n (fun listed' a' => Region.seqB md ops g n listed' = true ∧ Lq a') l.length listed a
  | [], k, listed, a, _, hk, _, hB, h => by
    have : k = n := by simpa using hk
    subst this
    exact ⟨by simpa [Region.lexHead] using hB, h⟩
  | o :: l, k, listed, a, hl, hk, inv, hB, h => by
    have h0 : ops[k]? = some o := by simpa using (hl 0 (by simp)).symm
    simp only [List.length_cons, Region.lexHead, Bool.and_eq_true] at hB
    obtain ⟨⟨hr, hf⟩, hB'⟩ := hB
    have hkn : k < n := by simp only [List.length_cons] at hk; omega
    have hr' : k ∈ Region.ready md ops listed := by simpa using hr
    obtain ⟨v, hy, hK⟩ := h
    exact wpAnyT_first h0 (Region.noSelect_spec hsel) hs hc hn hkn (fun listed' a' hL => seqB_ready hL.1) l.length listed a inv (Region.free_spec h0 hf) hr' hy
      (wpAnyT_lex hsel hs hc hn l (k + 1) _ _ (fun j hj => by have := hl (j + 1) (by simp; omega); simpa [Nat.add_assoc, Nat.add_comm 1 j] using this) (by simp only [List.length_cons] at hk; omega) (inv.set hr' hkn) hB' hK)
/-- The region with a tail: n operations ahead of it. -/
theorem wp_region_keep_tail {id : Nat} {Q : Exit → Act → World → Prop} {a : Act} {w : World} {l : List Oper} (n : Nat) (S : World → Prop) (hm : P.follows .mixedOrders = true) (hB : Region.lexTailB .any l.toArray n = true) (hS : S w.drew)
    (h : wpKeep P l.toArray S (fun a' => ∀ w', S w' → wpList P l.toArray Q (l.drop n) a' w') (l.take n) a) : (Code.region id l.toArray true).wp P Q a w := by
  simp only [Region.lexTailB, Bool.and_eq_true, decide_eq_true_eq] at hB
  obtain ⟨⟨⟨⟨hsel, hn⟩, hs⟩, hc⟩, hlex⟩ := hB
  have hn' : n < l.length := by simpa using hn
  have htl : (l.take n).length = n := by simp; omega
  have hdl : (l.drop n).length = l.toArray.size - n := by simp
  have inv0 : HeadInv .any l.toArray n (Array.replicate l.toArray.size false) :=
    ⟨by simp, fun j oj _ hl => (by rw [getD_replicate_false] at hl; cases hl), fun t _ ht => getD_in (by simpa using ht) (getD_replicate_false _ _)⟩
  have H := wpAnyT_lex (md := .any) (S := S) (g := l.toArray.size - n) hsel hs hc hn (l.take n) 0 _ a (fun j hj => by
    have hj' : j < n := by rw [htl] at hj; exact hj
    simp [hj']) (by simpa using htl) inv0 (by rw [htl]; exact hlex) h
  refine wp_region_any hm ?_
  have := wpAny_of_T (Q' := Q) (S := S) (g := l.toArray.size - n) (fun listed a' hL w' hS' => by
    have := wpAny_of_seq (md := .any) (Q' := Q) (l.drop n) n listed a' w' (fun j => by simp [List.getElem?_drop]) (by rw [hdl]; exact hL.1) (hL.2 w' hS')
    rwa [hdl] at this) _ _ _ _ hS H
  rw [htl, show n + (l.toArray.size - n) = l.toArray.size by omega] at this
  exact this
variable {Q : Act → Prop} {a : Act} {o : Oper} {l : List Oper}
theorem keep_nil (h : Q a) : wpKeep P ops S Q [] a := h
theorem keep_step {v : Value} (hw : Region.wanted o (yielded ops a.tmps) = true)
    (h : ∀ (w : World) (K : Value → World → Prop), S w → (∀ w', S w' → K v w') → kUpon P K ((execOp a.eval o).run P w)) (hn : wpKeep P ops S Q l (a.put o.dst v)) : wpKeep P ops S Q (o :: l) a :=
  ⟨v, Or.inl ⟨hw, h⟩, hn⟩
theorem keep_not (hw : Region.wanted o (yielded ops a.tmps) = false) (hn : wpKeep P ops S Q l (a.put o.dst undef)) : wpKeep P ops S Q (o :: l) a := ⟨undef, Or.inr ⟨hw, rfl⟩, hn⟩
end
end Go.Proofs.YtkinpbhbgeiflaaDoor.Rk
/- What the reference's sum needs: its bytes, its words. -/
namespace Go.Proofs.YtkinpbhbgeiflaaDoor.Srf0
set_option linter.unusedVariables false
set_option linter.unusedSimpArgs false
set_option maxRecDepth 100000
open Go.ChangeShapes Go.WideShapes Go.ChangeAt Go.RowKit
open Go.Proofs.YtkinpbhbgeiflaaDoor.Wu Go.Proofs.YtkinpbhbgeiflaaDoor.Sm Go.Proofs.YtkinpbhbgeiflaaDoor.Sk Go.Proofs.YtkinpbhbgeiflaaDoor.Sc Go.Proofs.YtkinpbhbgeiflaaDoor.Sxa Go.Proofs.YtkinpbhbgeiflaaDoor.Sh Go.Proofs.YtkinpbhbgeiflaaDoor.Sn Go.Proofs.YtkinpbhbgeiflaaDoor.Sw0 Go.Proofs.YtkinpbhbgeiflaaDoor.So Go.Proofs.YtkinpbhbgeiflaaDoor.St Go.Proofs.YtkinpbhbgeiflaaDoor.Ap Go.Proofs.YtkinpbhbgeiflaaDoor.Sr

theorem strN_data (M : List Nat) (h : All8 M) : (strN M).data.map (fun b => Value.int .u8 (b.toNat : Int)) = (b8 M).toArray := by
  unfold strN strOfNums b8
  simp only [List.map_map, List.map_toArray]
  congr 1
  apply List.map_congr_left
  intro x hx
  have := h x hx
  simp only [Function.comp, Int.toNat_natCast, UInt8.toNat_ofNat']
  congr 1
  omega
/-- []byte(s) -/
theorem conv_bytes (w : World) (M : List Nat) (h : All8 M) (hm : M.length ≤ 70368744177664) : ∃ cap w', Sem.run Tryd.prog (convert 9 22 (.string (strN M))) w = .ok (.slice (some ⟨w.heap.size, 0, none⟩) M.length cap) w' ∧ Dst w' w.heap.size M.length cap M ∧ Below w.heap.size w w' := by
  have hr := run_bytes_of_string (P := Tryd.prog) w 9 22 5 (strN M) Tryd.underlying9 Tryd.underlying22 Tryd.underlying5
  have hsz : (strN M).size = M.length := Srt.strN_size M
  rw [hsz] at hr
  have hge := grownCap_ge w M.length 0 5
  have hle := grownCap_le_maxLen w M.length 0 5 (by unfold maxLen; omega)
  generalize grownCap w M.length 0 5 = q at hr hge hle
  have e : bytesRow (strN M) q = (b8 M).toArray ++ Array.replicate (q - M.length) (Value.int .u8 0) := by
    unfold bytesRow
    rw [strN_data M h, hsz]
  rw [e] at hr
  have hn := dst_new w.drew M (Array.replicate (q - M.length) (Value.int .u8 0)) 5 (((b8 M).toArray ++ Array.replicate (q - M.length) (Value.int .u8 0)).size, ((b8 M).toArray ++ Array.replicate (q - M.length) (Value.int .u8 0)).size + 1) (.inr (by simp [b8_length])) h (by simp; omega)
  rw [Array.size_replicate, show M.length + (q - M.length) = q by omega] at hn
  exact ⟨q, _, hr, hn, (Below.refl _ _).drew.alloc (Nat.le_refl _) _⟩
/-- Words of 64 bits as cells. -/
def u64s (L : List Nat) : Array Value := (L.map fun x : Nat => Value.int .u64 (x : Int)).toArray
theorem u64s_size (L : List Nat) : (u64s L).size = L.length := by simp [u64s]
theorem u64s_at (L : List Nat) (i : Nat) (h : i < L.length) : (u64s L)[i]? = some (.int .u64 ((L.getD i 0 : Nat) : Int)) := by simp [u64s, List.getD, h]
theorem u64s_set (L : List Nat) (i x : Nat) : (u64s L).setIfInBounds i (.int .u64 (x : Int)) = u64s (L.set i x) := by simp [u64s, List.map_set]
theorem row64 {w : World} {B i : Nat} {X : List Nat} {T : TypeId} {f : Nat × Nat} (h : w.heap[B]? = some (.cells (u64s X) T f)) (hi : i < X.length) : w.cell? ⟨B, i, none⟩ = some (.int .u64 ((X.getD i 0 : Nat) : Int)) := blk_cell h (u64s_at X i hi)
theorem right_eq (x n : Nat) (hx : x < 4294967296) (hn : 1 ≤ n) (hn' : n ≤ 31) : (bits BinOp.or IntKind.u64 ((x : Int) / 2 ^ n) (IntKind.u64.wrap ((x : Int) * 2 ^ (32 - n)))).tmod 4294967296 = (rotr x n : Int) := by
  have e1 : ((x : Int) / 2 ^ n) = ((x >>> n : Nat) : Int) := by rw [Nat.shiftRight_eq_div_pow, Int.natCast_ediv, Int.natCast_pow]; rfl
  have hb : x <<< (32 - n) < 18446744073709551616 := by
    rw [Nat.shiftLeft_eq]
    have h2 : 2 ^ (32 - n) ≤ 2 ^ 31 := Nat.pow_le_pow_right (by decide) (by omega)
    have h3 : x * 2 ^ (32 - n) ≤ 4294967295 * 2 ^ 31 := Nat.mul_le_mul (by omega) h2
    omega
  have e2 : IntKind.u64.wrap ((x : Int) * 2 ^ (32 - n)) = ((x <<< (32 - n) : Nat) : Int) := by
    have e3 : (x : Int) * 2 ^ (32 - n) = ((x <<< (32 - n) : Nat) : Int) := by rw [Nat.shiftLeft_eq, Int.natCast_mul, Int.natCast_pow]; rfl
    rw [e3, IntKind.wrap_u64]
    generalize x <<< (32 - n) = y at hb
    omega
  have h1 := shr_lt (n := n) hx
  rw [e1, e2, u64_or_nat _ _ (Nat.lt_trans h1 (by omega)) hb, Int.tmod_eq_emod_of_nonneg (Int.natCast_nonneg _), ← right_is x n hx]
  rfl
theorem right_c (x n : Nat) (w : World) (hx : x < 4294967296) (hn : 1 ≤ n) (hn' : n ≤ 31) :
    Calls Tryd.prog 129 #[.int .u64 (x : Int), .int .i64 (n : Int)] w fun e w' => e = .returned (.int .u64 (rotr x n : Int)) ∧ ∃ k, w' = w.drewN k := by
  have h1 : (0 : Int) ≤ (n : Int) := by omega
  have h2 : (n : Int) < 64 := by omega
  have h3 : (0 : Int) ≤ 32 - (n : Int) := by omega
  have h4 : (32 : Int) - (n : Int) < 64 := by omega
  go_enter Tryd.func129, Tryd.ntmps129
  have hw : IntKind.i64.wrap (32 - (n : Int)) = 32 - (n : Int) := IntWalk.i64_in _ (by omega)
  go_wp2
  go_quiet (fail)
  go_wp2
  go_ret
  refine ⟨?_, nq, rfl⟩
  show Ending.returned (.int .u64 ((bits BinOp.or IntKind.u64 ((x : Int) / 2 ^ n) (IntKind.u64.wrap ((x : Int) * 2 ^ (32 - n)))).tmod 4294967296)) = _
  rw [right_eq x n hx hn hn']
theorem parts_c (w : World) : Calls Tryd.prog 128 #[] w fun e w' => e = .returned (.slice (some ⟨w.heap.size, 0, none⟩) 64 64) ∧ w.alloc (.cells (u64s Ks) 206) = w' := by
  go_enter Tryd.func128, Tryd.ntmps128
  go_wp2
  go_ret
  exact ⟨rfl, rfl⟩
end Go.Proofs.YtkinpbhbgeiflaaDoor.Srf0
/- Rows of bytes that are known whole: stored, loaded, returned. -/
namespace Go.Proofs.YtkinpbhbgeiflaaDoor.Sv
set_option linter.unusedVariables false
set_option linter.unusedSimpArgs false
set_option maxRecDepth 100000
open Go.ChangeShapes Go.WideShapes Go.ChangeAt Go.RowKit
open Go.Proofs.YtkinpbhbgeiflaaDoor.Wu Go.Proofs.YtkinpbhbgeiflaaDoor.Sm Go.Proofs.YtkinpbhbgeiflaaDoor.Sk Go.Proofs.YtkinpbhbgeiflaaDoor.Sc Go.Proofs.YtkinpbhbgeiflaaDoor.Sxa Go.Proofs.YtkinpbhbgeiflaaDoor.Sh Go.Proofs.YtkinpbhbgeiflaaDoor.Sn Go.Proofs.YtkinpbhbgeiflaaDoor.Sw0 Go.Proofs.YtkinpbhbgeiflaaDoor.Sx Go.Proofs.YtkinpbhbgeiflaaDoor.Sw Go.Proofs.YtkinpbhbgeiflaaDoor.Sb Go.Proofs.YtkinpbhbgeiflaaDoor.Sf

theorem setCells_other {B k : Nat} (hk : k ≠ B) : ∀ (vs : List Value) (o : Nat) (w : World), (w.setCells B o vs).heap[k]? = w.heap[k]?
  | [], _, _ => rfl
  | v :: vs, o, w => by
    rw [World.setCells, setCells_other hk vs (o + 1)]
    exact Below.heap_setCell _ _ _ _ hk
theorem grown_setCells {B : Nat} : ∀ (vs : List Value) (o : Nat) (w : World), w.grownBy (w.setCells B o vs) (some B)
  | [], _, w => World.grownBy.refl w _
  | v :: vs, o, w => by
    rw [World.setCells]
    exact grown_trans (grown_setCell (World.grownBy.refl w (some B)) o v) (grown_setCells vs (o + 1) _)
theorem wpList_store_whole {P : Program} {ops : Array Oper} {rest : List Oper} {op : Oper} {a : Act} {w : World} {Q : Exit → Act → World → Prop} (hgd : op.guard = none) (ty : TypeId) (x y : Operand) (ho : op.op = .store ty x y)
    (b : Nat) (X Y : List Nat) (T : TypeId) (hx : a.eval x = .pointer (some ⟨b, 0, none⟩)) (hy : a.eval y = .agg (u8s X)) (hg : w.heap[b]? = some (.cells (u8s Y) T (0, 0))) (hl : X.length = Y.length)
    (hi : (P.info? ty).map (·.size) = some X.length)
    (h : ∀ w', Hid (w'.heap[b]? = some (.cells (u8s X) T (0, 0))) → Hid (w.grownBy w' (some b)) → Hid (wpList P ops Q rest (a.put op.dst undef) w')) : wpList P ops Q (op :: rest) a w :=
  wpList_store_mid hgd ty x y ho b 0 (u8s X) hx hy (by rw [u8s_size, hl]; exact there8 hg) (by rw [u8s_size]; exact hi) (u8s_one X) (h _ (set_all8 X Y hg hl) (grown_setCells _ _ _))
theorem wpList_load_whole {P : Program} {ops : Array Oper} {rest : List Oper} {op : Oper} {a : Act} {w : World} {Q : Exit → Act → World → Prop} (hgd : op.guard = none) (ty : TypeId) (x : Operand) (ho : op.op = .load ty x)
    (b : Nat) (X : List Nat) (T : TypeId) (f : Nat × Nat) (hx : a.eval x = .pointer (some ⟨b, 0, none⟩)) (hg : w.heap[b]? = some (.cells (u8s X) T f)) (d : TypeDesc)
    (hu : P.underlying ty = some d) (hd : d.isRow = true) (hi : (P.info? ty).map (·.size) = some X.length)
    (h : wpList P ops Q rest (a.put op.dst (.agg (u8s X))) w) : wpList P ops Q (op :: rest) a w := by
  refine wpList_load_mid hgd ty x ho b 0 hx (u8s X).toList d (range8_all hg) hu hd (by rw [Array.length_toList, u8s_size]; exact hi) ?_
  rw [Array.toArray_toList]
  exact h
theorem ret_whole {P : Program} {fn : Func} {p : Tmp} {ty : TypeId} {R : Ending → World → Prop} {a : Act} {w : World} (hr : fn.results = #[.cell p ty]) (b : Nat) (X : List Nat) (T : TypeId) (f : Nat × Nat) (hp : a.tmps.getD p undef = .pointer (some ⟨b, 0, none⟩))
    (hg : w.heap[b]? = some (.cells (u8s X) T f)) (d : TypeDesc) (hu : P.underlying ty = some d) (hd : d.isRow = true) (hi : (P.info? ty).map (·.size) = some X.length) (hde : a.defers = []) (h : R (.returned (.agg (u8s X))) w) : bodyPost P fn R .ret a w := by
  refine bodyPost_ret (v := .agg (u8s X)) ?_ hde h
  rw [results_one_cell hr, hp]
  have h4 := run_loadVar_mid (P := P) w b 0 ty (u8s X).toList d (range8_all hg) hu hd (by rw [Array.length_toList, u8s_size]; exact hi)
  rw [Array.toArray_toList] at h4
  simpa [asAddr] using h4
/-- A block other than the one that turned. -/
theorem keepG {w w' : World} {g k : Nat} {x : Obj} (h : w.grownBy w' (some g)) (hk : k ≠ g) (hx : w.heap[k]? = some x) : w'.heap[k]? = some x :=
  (h.block k (heap_lt hx) (fun e => hk (by injection e))).trans hx
theorem belowG {w0 w w' : World} {g N : Nat} (hb : Below N w0 w) (h : w.grownBy w' (some g)) (hN : N ≤ g) (hs : N ≤ w.heap.size) : Below N w0 w' :=
  hb.trans ⟨h.os, h.tape, h.output, h.size, fun k hk => h.block k (by omega) (fun e => by injection e with e; omega)⟩
end Go.Proofs.YtkinpbhbgeiflaaDoor.Sv
/- The reference's memory while it sums. -/
namespace Go.Proofs.YtkinpbhbgeiflaaDoor.Srf1
set_option linter.unusedVariables false
set_option linter.unusedSimpArgs false
set_option maxRecDepth 100000
open Go.RowKit
open Go.Proofs.YtkinpbhbgeiflaaDoor.Wu Go.Proofs.YtkinpbhbgeiflaaDoor.Sm Go.Proofs.YtkinpbhbgeiflaaDoor.Sk Go.Proofs.YtkinpbhbgeiflaaDoor.Sc Go.Proofs.YtkinpbhbgeiflaaDoor.Sxa Go.Proofs.YtkinpbhbgeiflaaDoor.Sh Go.Proofs.YtkinpbhbgeiflaaDoor.Sn Go.Proofs.YtkinpbhbgeiflaaDoor.Sw0 Go.Proofs.YtkinpbhbgeiflaaDoor.Sf Go.Proofs.YtkinpbhbgeiflaaDoor.So Go.Proofs.YtkinpbhbgeiflaaDoor.Sv Go.Proofs.YtkinpbhbgeiflaaDoor.Ap Go.Proofs.YtkinpbhbgeiflaaDoor.Sr Go.Proofs.YtkinpbhbgeiflaaDoor.Srf0

/-- What lies where: the words of the rounds, the state, the message, the result's cell. -/
structure Env (w wr : World) (KB HB g n cap : Nat) (PM : List Nat) (s : S8) : Prop where
  ks : wr.heap[KB]? = some (.cells (u64s Ks) 206 (0, 0))
  hs : wr.heap[HB]? = some (.cells (u64s s.list) 206 (0, 0))
  msg : Dst wr g n cap PM
  res : wr.heap[w.heap.size]? = some (.cells (u8s (zeros 32)) 84 (0, 0))
  below : Below w.heap.size w wr
section
variable {w wr wr' : World} {KB HB g n cap : Nat} {PM : List Nat} {s : S8}
theorem Env.grown {k : Nat} (h : Env w wr KB HB g n cap PM s) (hg : wr.grownBy wr' (some k)) (h1 : KB ≠ k) (h2 : HB ≠ k) (h3 : g ≠ k) (h4 : w.heap.size < k) : Env w wr' KB HB g n cap PM s :=
  ⟨keepG hg h1 h.ks, keepG hg h2 h.hs, h.msg.kept hg h3, keepG hg (by omega) h.res, belowG h.below hg (by omega) h.below.size⟩
theorem Env.up (h : Env w wr KB HB g n cap PM s) (hb : Below wr.heap.size wr wr') : Env w wr' KB HB g n cap PM s :=
  ⟨below_blk hb (heap_lt h.ks) h.ks, below_blk hb (heap_lt h.hs) h.hs, h.msg.below hb h.msg.lt, below_blk hb (heap_lt h.res) h.res, keepB hb (Nat.le_refl _) h.below⟩
theorem Env.drewN (h : Env w wr KB HB g n cap PM s) (k : Nat) : Env w (wr.drewN k) KB HB g n cap PM s := ⟨h.ks, h.hs, ⟨h.msg.len, h.msg.all, h.msg.fit, h.msg.max, h.msg.lt, h.msg.cells, h.msg.spare⟩, h.res, below_drewN h.below k⟩
theorem Env.lts (h : Env w wr KB HB g n cap PM s) : KB < wr.heap.size ∧ HB < wr.heap.size ∧ g < wr.heap.size ∧ w.heap.size < wr.heap.size := ⟨heap_lt h.ks, heap_lt h.hs, h.msg.lt, heap_lt h.res⟩
end
/-- A word out of so many of its bytes. -/
def acc (L : List Nat) (i : Nat) : Nat → Nat
  | 0 => 0
  | c + 1 => acc L i c * 256 + L.getD (4 * i + c) 0
theorem acc_lt {L : List Nat} (h : All8 L) (i : Nat) : ∀ c, c ≤ 4 → acc L i c < 256 ^ c
  | 0, _ => by simp [acc]
  | c + 1, hc => by
    have h1 := acc_lt h i c (by omega)
    have h2 := all8_getD h (4 * i + c)
    rw [acc, Nat.pow_succ]
    have : acc L i c * 256 + 256 ≤ 256 ^ c * 256 := by rw [← Nat.succ_mul]; exact Nat.mul_le_mul_right _ h1
    omega
theorem acc_four (L : List Nat) (i : Nat) : acc L i 4 = w16 L i := by
  simp only [acc, w16, wd, Nat.add_zero, Nat.zero_mul, Nat.zero_add]; omega
theorem acc_bd {L : List Nat} (h : All8 L) (i c : Nat) (hc : c < 4) : acc L i c < 16777216 := by
  have := acc_lt h i c (by omega)
  have h2 : 256 ^ c ≤ 256 ^ 3 := Nat.pow_le_pow_right (by decide) (by omega)
  omega
/-- The words' row: i words, and c bytes of the next one. -/
def wRow (L : List Nat) (i c : Nat) : List Nat := (W16 L).take i ++ acc L i c :: zeros (63 - i)
theorem wRow_length (L : List Nat) (i c : Nat) (hi : i < 16) : (wRow L i c).length = 64 := by simp [wRow, W16_length, zeros]; omega
theorem wRow_at (L : List Nat) (i c : Nat) (hi : i < 16) : (wRow L i c).getD i 0 = acc L i c := by
  have hl : ((W16 L).take i).length = i := by rw [List.length_take, W16_length]; omega
  simp only [wRow, List.getD]
  rw [List.getElem?_append_right (by omega), hl, Nat.sub_self]; rfl
theorem wRow_step (L : List Nat) (i c : Nat) (hi : i < 16) : (wRow L i c).set i (acc L i c * 256 + L.getD (4 * i + c) 0) = wRow L i (c + 1) := by
  have hl : ((W16 L).take i).length = i := by rw [List.length_take, W16_length]; omega
  unfold wRow
  rw [List.set_append_right _ _ (by omega), hl, Nat.sub_self, List.set_cons_zero]
  rfl
theorem wRow_next (L : List Nat) (i : Nat) (hi : i < 15) : wRow L i 4 = wRow L (i + 1) 0 := by
  unfold wRow
  rw [acc_four, W16_take L i (by omega), show 63 - i = (63 - (i + 1)) + 1 by omega]
  simp [acc, zeros, List.replicate_succ]
theorem wRow_zero (L : List Nat) : wRow L 0 0 = zeros 64 := by simp [wRow, acc, zeros]
/-- The row at the head of the words' loop. -/
def wHead (L : List Nat) (i : Nat) : List Nat := (W16 L).take i ++ zeros (64 - i)
theorem wHead_row (L : List Nat) (i : Nat) (hi : i < 16) : wHead L i = wRow L i 0 := by
  unfold wHead wRow
  rw [show 64 - i = (63 - i) + 1 by omega]
  rfl
theorem wRow_head (L : List Nat) (i : Nat) (hi : i < 16) : wRow L i 4 = wHead L (i + 1) := by
  unfold wRow wHead
  rw [acc_four, W16_take L i hi, show 64 - (i + 1) = 63 - i by omega]
  simp
theorem wHead_end (L : List Nat) : wHead L 16 = ext 0 (W16 L) ++ zeros 48 := by
  unfold wHead; rw [List.take_of_length_le (by rw [W16_length]; omega)]; rfl
theorem blk_getD (PM : List Nat) (q i : Nat) (hi : i < 64) : (blk PM q).getD i 0 = PM.getD (64 * q + i) 0 := by
  unfold blk
  simp only [List.getD, List.getElem?_take_of_lt hi, List.getElem?_drop]
theorem all8_blk {PM : List Nat} (h : All8 PM) (q : Nat) : All8 (blk PM q) := all8_take (all8_drop h _) _
theorem wpList_buildSlice_to {P : Program} {ops : Array Oper} {rest : List Oper} {o : Oper} {a : Act} {w : World} {Q : Exit → Act → World → Prop} (hg : o.guard = none) (t : TypeId) (len : Nat) (parts : Array (Nat × Operand)) (ho : o.op = .buildSlice t len parts)
    (d : Option Tmp) (hd : o.dst = d) (vals : Array (Nat × Value)) (hv : (parts.map fun (i, x) => (i, a.eval x)) = vals) (v : Value) (w' : World) (hr : Sem.run P (Instr.buildSlice t len vals) w = .ok v w')
    (h : Hid (wpList P ops Q rest (a.put d v) w')) : wpList P ops Q (o :: rest) a w := by
  subst hd hv
  refine wpList_plain hg fun K hK => ?_
  unfold Oper.wp
  have e : (execOp a.eval o).run P w = .ok (.value v) w' := by
    unfold execOp
    simp only [ho]
    simp only [Sem.run_bind, Sem.run_pure]
    rw [hr]
    rfl
  rw [e]
  exact hK _ _ h
theorem build_h0 (u : World) : Sem.run Tryd.prog (Instr.buildSlice 237 8 #[(0, .int .u64 1779033703), (1, .int .u64 3144134277), (2, .int .u64 1013904242), (3, .int .u64 2773480762), (4, .int .u64 1359893119), (5, .int .u64 2600822924), (6, .int .u64 528734635), (7, .int .u64 1541459225)]) u = .ok (.slice (some ⟨u.heap.size, 0, none⟩) 8 8) (u.alloc (.cells (u64s H0.list) 206)) := by kernel_rfl
theorem build_s8 (u : World) (a b c d e f g h : Int) : Sem.run Tryd.prog (Instr.buildSlice 237 8 #[(0, .int .u64 a), (1, .int .u64 b), (2, .int .u64 c), (3, .int .u64 d), (4, .int .u64 e), (5, .int .u64 f), (6, .int .u64 g), (7, .int .u64 h)]) u = .ok (.slice (some ⟨u.heap.size, 0, none⟩) 8 8) (u.alloc (.cells #[.int .u64 a, .int .u64 b, .int .u64 c, .int .u64 d, .int .u64 e, .int .u64 f, .int .u64 g, .int .u64 h] 206)) := by kernel_rfl
end Go.Proofs.YtkinpbhbgeiflaaDoor.Srf1
/- The loops of the reference's Of, taken out of its text; its memory with the words' row. -/
namespace Go.Proofs.YtkinpbhbgeiflaaDoor.Sza
set_option linter.unusedVariables false
set_option linter.unusedSimpArgs false
set_option maxRecDepth 100000
open Go.RowKit
open Go.Proofs.YtkinpbhbgeiflaaDoor.Wu Go.Proofs.YtkinpbhbgeiflaaDoor.Sm Go.Proofs.YtkinpbhbgeiflaaDoor.Sk Go.Proofs.YtkinpbhbgeiflaaDoor.Sc Go.Proofs.YtkinpbhbgeiflaaDoor.Sxa Go.Proofs.YtkinpbhbgeiflaaDoor.Sh Go.Proofs.YtkinpbhbgeiflaaDoor.Sn Go.Proofs.YtkinpbhbgeiflaaDoor.Sw0 Go.Proofs.YtkinpbhbgeiflaaDoor.Sf Go.Proofs.YtkinpbhbgeiflaaDoor.So Go.Proofs.YtkinpbhbgeiflaaDoor.Sv Go.Proofs.YtkinpbhbgeiflaaDoor.Ap Go.Proofs.YtkinpbhbgeiflaaDoor.Sr Go.Proofs.YtkinpbhbgeiflaaDoor.Srf0 Go.Proofs.YtkinpbhbgeiflaaDoor.Srf1
def loops : Code → List Code
  | .loop c => .loop c :: loops c
  | .seq a b => loops a ++ loops b
  | .block _ c => loops c
  | .scope c => loops c
  | .cond _ a b => loops a ++ loops b
  | _ => []
noncomputable def lc (k : Nat) : Code := (((Tryd.f118.body.map loops).getD [])[k]?).getD .skip
/-- The memory, and the words' row. -/
structure E2 (w wr : World) (KB HB g nb cap : Nat) (PM : List Nat) (s : S8) (WB : Nat) (row : List Nat) : Prop where
  env : Env w wr KB HB g (64 * nb) cap PM s
  row : wr.heap[WB]? = some (.cells (u64s row) 206 (0, 0))
  nk : KB ≠ WB
  nh : HB ≠ WB
  ng : g ≠ WB
  nr : w.heap.size < WB
section
variable {w wr wr' : World} {KB HB g nb cap : Nat} {PM : List Nat} {s : S8} {WB : Nat} {row row' : List Nat}
theorem E2.step {i x : Nat} (h : E2 w wr KB HB g nb cap PM s WB row) (hr : row.set i x = row') (hi : i < row.length) : ∀ k : Nat, E2 w ((wr.drewN k).setCell ⟨WB, i, none⟩ (.int .u64 (x : Int))) KB HB g nb cap PM s WB row' := by
  intro k
  refine ⟨(h.env.drewN k).grown (grown_setCell (World.grownBy.refl _ (some WB)) i _) h.nk h.nh h.ng h.nr, ?_, h.nk, h.nh, h.ng, h.nr⟩
  have h1 : (wr.drewN k).heap[WB]? = some (.cells (u64s row) 206 (0, 0)) := h.row
  rw [blk_set h1, u64s_set, hr]
theorem E2.up (h : E2 w wr KB HB g nb cap PM s WB row) (hb : Below wr.heap.size wr wr') : E2 w wr' KB HB g nb cap PM s WB row :=
  ⟨h.env.up hb, below_blk hb (heap_lt h.row) h.row, h.nk, h.nh, h.ng, h.nr⟩
end
theorem drewN_add (w : World) (a b : Nat) : (w.drewN a).drewN b = w.drewN (a + b) := by simp [World.drewN, Nat.add_assoc]
theorem xor3 (a b c : Nat) (ha : a < 4294967296) (hb : b < 4294967296) (hc : c < 4294967296) : bits BinOp.xor IntKind.u64 (bits BinOp.xor IntKind.u64 (a : Int) (b : Int)) (c : Int) = ((a ^^^ b ^^^ c : Nat) : Int) := by
  have h := xor_lt ha hb
  rw [u64_xor_nat a b (by omega) (by omega), u64_xor_nat (a ^^^ b) c (by omega) (by omega)]
theorem shr_int (x n : Nat) : (x : Int) / ((2 ^ n : Nat) : Int) = ((x >>> n : Nat) : Int) := by rw [Nat.shiftRight_eq_div_pow, Int.natCast_ediv]
theorem word_eq (A X B Y : Nat) (hA : A < 4294967296) (hX : X < 4294967296) (hB : B < 4294967296) (hY : Y < 4294967296) :
    (IntKind.u64.wrap (IntKind.u64.wrap (IntKind.u64.wrap ((A : Int) + bits BinOp.xor IntKind.u64 (bits BinOp.xor IntKind.u64 ((rotr X 7 : Nat) : Int) ((rotr X 18 : Nat) : Int)) ((X : Int) / 8)) + (B : Int)) + bits BinOp.xor IntKind.u64 (bits BinOp.xor IntKind.u64 ((rotr Y 17 : Nat) : Int) ((rotr Y 19 : Nat) : Int)) ((Y : Int) / 1024))).tmod 4294967296 = (((A + lS0 X + B + lS1 Y) % 4294967296 : Nat) : Int) := by
  have e1 : (X : Int) / (8 : Int) = ((X >>> 3 : Nat) : Int) := by rw [Nat.shiftRight_eq_div_pow]; show _ = ((X / 8 : Nat) : Int); omega
  have e2 : (Y : Int) / (1024 : Int) = ((Y >>> 10 : Nat) : Int) := by rw [Nat.shiftRight_eq_div_pow]; show _ = ((Y / 1024 : Nat) : Int); omega
  rw [e1, e2, xor3 _ _ _ (rotr_lt hX) (rotr_lt hX) (shr_lt hX), xor3 _ _ _ (rotr_lt hY) (rotr_lt hY) (shr_lt hY)]
  have h1 := lS0_lt hX
  have h2 := lS1_lt hY
  unfold lS0 at h1 ⊢
  unfold lS1 at h2 ⊢
  generalize rotr X 7 ^^^ rotr X 18 ^^^ X >>> 3 = p at *
  generalize rotr Y 17 ^^^ rotr Y 19 ^^^ Y >>> 10 = r at *
  rw [IntKind.wrap_u64, IntKind.wrap_u64, IntKind.wrap_u64, Int.tmod_eq_emod_of_nonneg (by omega)]
  omega
/-- The row while it is filled: 16 + j words. -/
def eRow (L : List Nat) (j : Nat) : List Nat := ext j (W16 L) ++ zeros (48 - j)
theorem eRow_zero (L : List Nat) : wHead L 16 = eRow L 0 := wHead_end L
theorem eRow_end (L : List Nat) : eRow L 48 = sched L := by unfold eRow sched; simp [zeros]
theorem eRow_length (L : List Nat) (j : Nat) (h : j ≤ 48) : (eRow L j).length = 64 := by unfold eRow; rw [List.length_append, ext_length, W16_length, zeros_length]; omega
theorem eRow_at (L : List Nat) (j k : Nat) (h : k < 16 + j) : (eRow L j).getD k 0 = (ext j (W16 L)).getD k 0 := getD_left _ _ _ (by rw [ext_length, W16_length]; exact h)
theorem eRow_step (L : List Nat) (j : Nat) (h : j < 48) : (eRow L j).set (16 + j) (nxt (ext j (W16 L))) = eRow L (j + 1) := by
  unfold eRow
  have e : 16 + j = (ext j (W16 L)).length := by rw [ext_length, W16_length]
  rw [e, show 48 - j = (48 - (j + 1)) + 1 by omega]
  exact set_grow _ _ _
theorem nxt_is (L : List Nat) (j : Nat) : nxt (ext j (W16 L)) = ((eRow L j).getD j 0 + lS0 ((eRow L j).getD (j + 1) 0) + (eRow L j).getD (j + 9) 0 + lS1 ((eRow L j).getD (j + 14) 0)) % 4294967296 := by
  unfold nxt
  rw [ext_length, W16_length, eRow_at L j j (by omega), eRow_at L j (j + 1) (by omega), eRow_at L j (j + 9) (by omega), eRow_at L j (j + 14) (by omega)]
  rw [show 16 + j - 2 = j + 14 by omega, show 16 + j - 7 = j + 9 by omega, show 16 + j - 15 = j + 1 by omega, show 16 + j - 16 = j by omega]
  congr 1
  omega
theorem eRow_all {L : List Nat} (h : All8 L) (j : Nat) : All32 (eRow L j) := by
  intro x hx
  rcases List.mem_append.1 hx with h1 | h1
  · exact ext_all (W16_all h) j x h1
  · rw [List.eq_of_mem_replicate h1]; omega
theorem chs_eq (e f g : Nat) (he : e < 4294967296) (hf : f < 4294967296) (hg : g < 4294967296) : bits BinOp.or IntKind.u64 (bits BinOp.and IntKind.u64 (e : Int) (f : Int)) (bits BinOp.and IntKind.u64 (IntKind.u64.wrap (IntKind.u64.wrap 4294967295 - (e : Int))) (g : Int)) = ((chs e f g : Nat) : Int) := by
  have e1 : IntKind.u64.wrap (IntKind.u64.wrap 4294967295 - (e : Int)) = ((4294967295 - e : Nat) : Int) := by rw [IntKind.wrap_u64, IntKind.wrap_u64]; omega
  have h1 := and_lt (x := e) hf
  have h2 := and_lt (x := 4294967295 - e) hg
  rw [e1, u64_and_nat _ _ (by omega) (by omega), u64_and_nat _ _ (by omega) (by omega), u64_or_nat _ _ (by omega) (by omega), chs_or e f g he hf hg]
theorem maj_eq (a b c : Nat) (ha : a < 4294967296) (hb : b < 4294967296) (hc : c < 4294967296) : bits BinOp.or IntKind.u64 (bits BinOp.or IntKind.u64 (bits BinOp.and IntKind.u64 (a : Int) (b : Int)) (bits BinOp.and IntKind.u64 (a : Int) (c : Int))) (bits BinOp.and IntKind.u64 (b : Int) (c : Int)) = ((maj a b c : Nat) : Int) := by
  have h1 := and_lt (x := a) hb
  have h2 := and_lt (x := a) hc
  have h3 := and_lt (x := b) hc
  have h4 := or_lt h1 h2
  rw [u64_and_nat _ _ (by omega) (by omega), u64_and_nat _ _ (by omega) (by omega), u64_and_nat _ _ (by omega) (by omega), u64_or_nat _ _ (by omega) (by omega), u64_or_nat _ _ (by omega) (by omega), maj_or]
theorem one_eq (h e C K X : Nat) (hh : h < 4294967296) (he : e < 4294967296) (hC : C < 4294967296) (hK : K < 4294967296) (hX : X < 4294967296) :
    IntKind.u64.wrap (IntKind.u64.wrap (IntKind.u64.wrap (IntKind.u64.wrap ((h : Int) + bits BinOp.xor IntKind.u64 (bits BinOp.xor IntKind.u64 ((rotr e 6 : Nat) : Int) ((rotr e 11 : Nat) : Int)) ((rotr e 25 : Nat) : Int)) + (C : Int)) + (K : Int)) + (X : Int)) = ((h + bS1 e + C + K + X : Nat) : Int) := by
  rw [xor3 _ _ _ (rotr_lt he) (rotr_lt he) (rotr_lt he)]
  have h1 := bS1_lt he
  unfold bS1 at h1 ⊢
  generalize rotr e 6 ^^^ rotr e 11 ^^^ rotr e 25 = p at *
  rw [IntKind.wrap_u64, IntKind.wrap_u64, IntKind.wrap_u64, IntKind.wrap_u64]
  omega
theorem two_eq (a M : Nat) (ha : a < 4294967296) (hM : M < 4294967296) :
    IntKind.u64.wrap (bits BinOp.xor IntKind.u64 (bits BinOp.xor IntKind.u64 ((rotr a 2 : Nat) : Int) ((rotr a 13 : Nat) : Int)) ((rotr a 22 : Nat) : Int) + (M : Int)) = ((bS0 a + M : Nat) : Int) := by
  rw [xor3 _ _ _ (rotr_lt ha) (rotr_lt ha) (rotr_lt ha)]
  have h1 := bS0_lt ha
  unfold bS0 at h1 ⊢
  generalize rotr a 2 ^^^ rotr a 13 ^^^ rotr a 22 = p at *
  rw [IntKind.wrap_u64]
  omega
theorem sum_eq2 (a b : Nat) (ha : a < 68719476736) (hb : b < 68719476736) : (IntKind.u64.wrap ((a : Int) + (b : Int))).tmod 4294967296 = (((a + b) % 4294967296 : Nat) : Int) := by
  rw [IntKind.wrap_u64, Int.tmod_eq_emod_of_nonneg (by omega)]
  omega
/-- Eight words at the beginning of a block. -/
structure V8 (wr : World) (VB : Nat) (t : S8) : Prop where
  a : wr.cell? ⟨VB, 0, none⟩ = some (.int .u64 (t.a : Int))
  b : wr.cell? ⟨VB, 1, none⟩ = some (.int .u64 (t.b : Int))
  c : wr.cell? ⟨VB, 2, none⟩ = some (.int .u64 (t.c : Int))
  d : wr.cell? ⟨VB, 3, none⟩ = some (.int .u64 (t.d : Int))
  e : wr.cell? ⟨VB, 4, none⟩ = some (.int .u64 (t.e : Int))
  f : wr.cell? ⟨VB, 5, none⟩ = some (.int .u64 (t.f : Int))
  g : wr.cell? ⟨VB, 6, none⟩ = some (.int .u64 (t.g : Int))
  h : wr.cell? ⟨VB, 7, none⟩ = some (.int .u64 (t.h : Int))
theorem V8.drewN {wr : World} {VB : Nat} {t : S8} (h : V8 wr VB t) (k : Nat) : V8 (wr.drewN k) VB t := ⟨h.a, h.b, h.c, h.d, h.e, h.f, h.g, h.h⟩
theorem V8.up {wr wr' : World} {VB : Nat} {t : S8} (h : V8 wr VB t) (hb : Below wr.heap.size wr wr') : V8 wr' VB t :=
  ⟨keepC hb (Nat.le_refl _) h.a, keepC hb (Nat.le_refl _) h.b, keepC hb (Nat.le_refl _) h.c, keepC hb (Nat.le_refl _) h.d, keepC hb (Nat.le_refl _) h.e, keepC hb (Nat.le_refl _) h.f, keepC hb (Nat.le_refl _) h.g, keepC hb (Nat.le_refl _) h.h⟩
theorem V8.blk {wr : World} {VB : Nat} {t : S8} {T : TypeId} {f : Nat × Nat} (h : wr.heap[VB]? = some (.cells (u64s t.list) T f)) : V8 wr VB t :=
  ⟨blk_cell h rfl, blk_cell h rfl, blk_cell h rfl, blk_cell h rfl, blk_cell h rfl, blk_cell h rfl, blk_cell h rfl, blk_cell h rfl⟩
theorem E2.drewN {w wr : World} {KB HB g nb cap : Nat} {PM : List Nat} {s : S8} {WB : Nat} {row : List Nat} (h : E2 w wr KB HB g nb cap PM s WB row) (k : Nat) : E2 w (wr.drewN k) KB HB g nb cap PM s WB row := ⟨h.env.drewN k, h.row, h.nk, h.nh, h.ng, h.nr⟩
theorem step_is (ta tb tc td te tf tg th K X O T : Nat) (hO : O = th + bS1 te + chs te tf tg + K + X) (hT : T = bS0 ta + maj ta tb tc) :
    S8.step ⟨ta, tb, tc, td, te, tf, tg, th⟩ K X = ⟨(O + T) % 4294967296, ta, tb, tc, (td + O) % 4294967296, te, tf, tg⟩ := by
  unfold S8.step one two
  simp only
  rw [← hO, ← hT, ← Nat.add_mod, Nat.add_mod_mod]
theorem v8_new (wr : World) (T : TypeId) (a b c d e f g h : Nat) : V8 (wr.alloc (.cells #[.int .u64 (a : Int), .int .u64 (b : Int), .int .u64 (c : Int), .int .u64 (d : Int), .int .u64 (e : Int), .int .u64 (f : Int), .int .u64 (g : Int), .int .u64 (h : Int)] T)) wr.heap.size ⟨a, b, c, d, e, f, g, h⟩ :=
  have H := heap_last wr (.cells #[.int .u64 (a : Int), .int .u64 (b : Int), .int .u64 (c : Int), .int .u64 (d : Int), .int .u64 (e : Int), .int .u64 (f : Int), .int .u64 (g : Int), .int .u64 (h : Int)] T)
  ⟨blk_cell H rfl, blk_cell H rfl, blk_cell H rfl, blk_cell H rfl, blk_cell H rfl, blk_cell H rfl, blk_cell H rfl, blk_cell H rfl⟩
end Go.Proofs.YtkinpbhbgeiflaaDoor.Sza
/- The reference's words: a word out of its bytes. -/
namespace Go.Proofs.YtkinpbhbgeiflaaDoor.Sz5
set_option linter.unusedVariables false
set_option linter.unusedSimpArgs false
set_option maxRecDepth 1000000
open Go.ChangeShapes Go.WideShapes Go.ChangeAt Go.RowKit
open Go.Proofs.YtkinpbhbgeiflaaDoor.Wu Go.Proofs.YtkinpbhbgeiflaaDoor.Sm Go.Proofs.YtkinpbhbgeiflaaDoor.Sk Go.Proofs.YtkinpbhbgeiflaaDoor.Sc Go.Proofs.YtkinpbhbgeiflaaDoor.Sxa Go.Proofs.YtkinpbhbgeiflaaDoor.Sh Go.Proofs.YtkinpbhbgeiflaaDoor.Sn Go.Proofs.YtkinpbhbgeiflaaDoor.Sw0 Go.Proofs.YtkinpbhbgeiflaaDoor.Sf Go.Proofs.YtkinpbhbgeiflaaDoor.So Go.Proofs.YtkinpbhbgeiflaaDoor.Sv Go.Proofs.YtkinpbhbgeiflaaDoor.Ap Go.Proofs.YtkinpbhbgeiflaaDoor.Sr Go.Proofs.YtkinpbhbgeiflaaDoor.Srf0 Go.Proofs.YtkinpbhbgeiflaaDoor.Srf1 Go.Proofs.YtkinpbhbgeiflaaDoor.Rk Go.Proofs.YtkinpbhbgeiflaaDoor.Sza
attribute [local go_sem] kUpon_value kUpon_skip kUpon_enter
set_option maxHeartbeats 6400000 in
theorem loop5 (c0 c1 c4 c5 c13 c14 c15 c16 c17 c18 c19 c20 c21 c22 c23 c24 c25 c26 c27 c28 c29 c30 c31 c32 c33 c34 c35 c36 c37 c38 c39 c40 c41 c42 c43 c44 c45 c46 c47 c48 c49 c50 c51 c52 c53 c54 c55 c56 c57 c58 c59 c60 c61 c62 c63 c64 c88 c89 c90 c91 c92 c93 c94 c95 c96 c97 c98 c99 c100 c101 c102 c103 c104 c105 c106 c107 c108 c109 c110 c111 c112 c113 c114 c115 c116 c117 c118 c119 c120 c121 c122 c123 c124 c125 c126 c127 c128 c129 c130 c131 c132 c133 c134 c135 c136 c137 c138 c139 c140 c141 c142 c143 c144 c145 c146 c147 c148 c149 c150 c151 c152 c153 c154 c155 c156 c157 c158 c159 c160 c161 c162 c163 c164 c165 c166 c167 c168 c169 c170 c171 c172 c173 c174 c175 c176 c177 c178 c179 c180 c181 c182 c183 c184 c185 c186 c187 c188 c189 c190 c191 c192 c193 c194 c195 c196 c197 c198 c199 c200 c201 c202 c203 c204 c205 c206 c207 c208 c209 c210 c211 c212 c213 c214 c215 c216 c217 c218 c219 c220 c221 c222 c223 c224 c225 c226 c227 c228 c229 c230 c231 c232 c233 c234 c235 c236 c237 c238 c239 c240 c241 c242 c243 c244 c245 c246 c247 c248 c249 c250 c251 c252 c253 c254 c255 c256 c257 c258 c259 c260 c261 c262 c263 c264 c265 c266 c267 c268 c269 c270 c271 c272 c273 c274 c275 c276 c277 c278 c279 c280 c281 c282 c283 c284 c285 c286 c287 c288 c289 c290 c291 c292 c293 c294 c295 c296 c297 c298 u65 u66 u67 u68 u69 u70 u71 u72 u73 u74 u75 u76 u77 u78 u79 u80 u81 u82 u83 u84 u85 u86 u87 : Value) (w wr : World) (KB HB g nb cap q WB P n : Nat) (PM : List Nat) (s : S8) (Q : Exit → Act → World → Prop) (hP : P = 64 * q) (hn : n = 64 * nb) (i : Nat) (hE : E2 w wr KB HB g nb cap PM s WB (wRow (blk PM q) i 0)) (h8 : All8 PM) (hq : q < nb) (hnb : nb ≤ 40000) (hi : i < 16)
    (hexit : ∀ (x12 x65 x66 x67 x68 x69 x70 x71 x72 x73 x74 x75 x76 x77 x78 x79 x80 x81 x82 x83 x84 x85 x86 x87 : Value) (wx : World), E2 w wx KB HB g nb cap PM s WB (wRow (blk PM q) i 4) → Q (.exit 8) ⟨List.toArray (c0 :: c1 :: (.pointer (some ⟨w.heap.size, 0, none⟩) : Value) :: (.slice (some ⟨g, 0, none⟩) n cap : Value) :: c4 :: c5 :: (.slice (some ⟨KB, 0, none⟩) 64 64 : Value) :: (.int .u64 4294967296 : Value) :: (.slice (some ⟨HB, 0, none⟩) 8 8 : Value) :: (.int .i64 (P : Int) : Value) :: (.slice (some ⟨WB, 0, none⟩) 64 64 : Value) :: (.int .i64 ((i : Nat) : Int) : Value) :: x12 :: c13 :: c14 :: c15 :: c16 :: c17 :: c18 :: c19 :: c20 :: c21 :: c22 :: c23 :: c24 :: c25 :: c26 :: c27 :: c28 :: c29 :: c30 :: c31 :: c32 :: c33 :: c34 :: c35 :: c36 :: c37 :: c38 :: c39 :: c40 :: c41 :: c42 :: c43 :: c44 :: c45 :: c46 :: c47 :: c48 :: c49 :: c50 :: c51 :: c52 :: c53 :: c54 :: c55 :: c56 :: c57 :: c58 :: c59 :: c60 :: c61 :: c62 :: c63 :: c64 :: x65 :: x66 :: x67 :: x68 :: x69 :: x70 :: x71 :: x72 :: x73 :: x74 :: x75 :: x76 :: x77 :: x78 :: x79 :: x80 :: x81 :: x82 :: x83 :: x84 :: x85 :: x86 :: x87 :: c88 :: c89 :: c90 :: c91 :: c92 :: c93 :: c94 :: c95 :: c96 :: c97 :: c98 :: c99 :: c100 :: c101 :: c102 :: c103 :: c104 :: c105 :: c106 :: c107 :: c108 :: c109 :: c110 :: c111 :: c112 :: c113 :: c114 :: c115 :: c116 :: c117 :: c118 :: c119 :: c120 :: c121 :: c122 :: c123 :: c124 :: c125 :: c126 :: c127 :: c128 :: c129 :: c130 :: c131 :: c132 :: c133 :: c134 :: c135 :: c136 :: c137 :: c138 :: c139 :: c140 :: c141 :: c142 :: c143 :: c144 :: c145 :: c146 :: c147 :: c148 :: c149 :: c150 :: c151 :: c152 :: c153 :: c154 :: c155 :: c156 :: c157 :: c158 :: c159 :: c160 :: c161 :: c162 :: c163 :: c164 :: c165 :: c166 :: c167 :: c168 :: c169 :: c170 :: c171 :: c172 :: c173 :: c174 :: c175 :: c176 :: c177 :: c178 :: c179 :: c180 :: c181 :: c182 :: c183 :: c184 :: c185 :: c186 :: c187 :: c188 :: c189 :: c190 :: c191 :: c192 :: c193 :: c194 :: c195 :: c196 :: c197 :: c198 :: c199 :: c200 :: c201 :: c202 :: c203 :: c204 :: c205 :: c206 :: c207 :: c208 :: c209 :: c210 :: c211 :: c212 :: c213 :: c214 :: c215 :: c216 :: c217 :: c218 :: c219 :: c220 :: c221 :: c222 :: c223 :: c224 :: c225 :: c226 :: c227 :: c228 :: c229 :: c230 :: c231 :: c232 :: c233 :: c234 :: c235 :: c236 :: c237 :: c238 :: c239 :: c240 :: c241 :: c242 :: c243 :: c244 :: c245 :: c246 :: c247 :: c248 :: c249 :: c250 :: c251 :: c252 :: c253 :: c254 :: c255 :: c256 :: c257 :: c258 :: c259 :: c260 :: c261 :: c262 :: c263 :: c264 :: c265 :: c266 :: c267 :: c268 :: c269 :: c270 :: c271 :: c272 :: c273 :: c274 :: c275 :: c276 :: c277 :: c278 :: c279 :: c280 :: c281 :: c282 :: c283 :: c284 :: c285 :: c286 :: c287 :: c288 :: c289 :: c290 :: c291 :: c292 :: c293 :: c294 :: c295 :: c296 :: c297 :: c298 :: []), []⟩ wx) :
    Code.wp Tryd.prog (lc 4) Q ⟨List.toArray (c0 :: c1 :: (.pointer (some ⟨w.heap.size, 0, none⟩) : Value) :: (.slice (some ⟨g, 0, none⟩) n cap : Value) :: c4 :: c5 :: (.slice (some ⟨KB, 0, none⟩) 64 64 : Value) :: (.int .u64 4294967296 : Value) :: (.slice (some ⟨HB, 0, none⟩) 8 8 : Value) :: (.int .i64 (P : Int) : Value) :: (.slice (some ⟨WB, 0, none⟩) 64 64 : Value) :: (.int .i64 ((i : Nat) : Int) : Value) :: (.int .i64 0 : Value) :: c13 :: c14 :: c15 :: c16 :: c17 :: c18 :: c19 :: c20 :: c21 :: c22 :: c23 :: c24 :: c25 :: c26 :: c27 :: c28 :: c29 :: c30 :: c31 :: c32 :: c33 :: c34 :: c35 :: c36 :: c37 :: c38 :: c39 :: c40 :: c41 :: c42 :: c43 :: c44 :: c45 :: c46 :: c47 :: c48 :: c49 :: c50 :: c51 :: c52 :: c53 :: c54 :: c55 :: c56 :: c57 :: c58 :: c59 :: c60 :: c61 :: c62 :: c63 :: c64 :: u65 :: u66 :: u67 :: u68 :: u69 :: u70 :: u71 :: u72 :: u73 :: u74 :: u75 :: u76 :: u77 :: u78 :: u79 :: u80 :: u81 :: u82 :: u83 :: u84 :: u85 :: u86 :: u87 :: c88 :: c89 :: c90 :: c91 :: c92 :: c93 :: c94 :: c95 :: c96 :: c97 :: c98 :: c99 :: c100 :: c101 :: c102 :: c103 :: c104 :: c105 :: c106 :: c107 :: c108 :: c109 :: c110 :: c111 :: c112 :: c113 :: c114 :: c115 :: c116 :: c117 :: c118 :: c119 :: c120 :: c121 :: c122 :: c123 :: c124 :: c125 :: c126 :: c127 :: c128 :: c129 :: c130 :: c131 :: c132 :: c133 :: c134 :: c135 :: c136 :: c137 :: c138 :: c139 :: c140 :: c141 :: c142 :: c143 :: c144 :: c145 :: c146 :: c147 :: c148 :: c149 :: c150 :: c151 :: c152 :: c153 :: c154 :: c155 :: c156 :: c157 :: c158 :: c159 :: c160 :: c161 :: c162 :: c163 :: c164 :: c165 :: c166 :: c167 :: c168 :: c169 :: c170 :: c171 :: c172 :: c173 :: c174 :: c175 :: c176 :: c177 :: c178 :: c179 :: c180 :: c181 :: c182 :: c183 :: c184 :: c185 :: c186 :: c187 :: c188 :: c189 :: c190 :: c191 :: c192 :: c193 :: c194 :: c195 :: c196 :: c197 :: c198 :: c199 :: c200 :: c201 :: c202 :: c203 :: c204 :: c205 :: c206 :: c207 :: c208 :: c209 :: c210 :: c211 :: c212 :: c213 :: c214 :: c215 :: c216 :: c217 :: c218 :: c219 :: c220 :: c221 :: c222 :: c223 :: c224 :: c225 :: c226 :: c227 :: c228 :: c229 :: c230 :: c231 :: c232 :: c233 :: c234 :: c235 :: c236 :: c237 :: c238 :: c239 :: c240 :: c241 :: c242 :: c243 :: c244 :: c245 :: c246 :: c247 :: c248 :: c249 :: c250 :: c251 :: c252 :: c253 :: c254 :: c255 :: c256 :: c257 :: c258 :: c259 :: c260 :: c261 :: c262 :: c263 :: c264 :: c265 :: c266 :: c267 :: c268 :: c269 :: c270 :: c271 :: c272 :: c273 :: c274 :: c275 :: c276 :: c277 :: c278 :: c279 :: c280 :: c281 :: c282 :: c283 :: c284 :: c285 :: c286 :: c287 :: c288 :: c289 :: c290 :: c291 :: c292 :: c293 :: c294 :: c295 :: c296 :: c297 :: c298 :: []), []⟩ wr := by
  conv => arg 2; whnf
  have HE := hide hE
  have Hx := hide hexit
  clear hE hexit
  go_loopw [12] (fun c wr => ∃ k : Nat, c = .int .i64 (k : Int) ∧ k ≤ 4 ∧ E2 w wr KB HB g nb cap PM s WB (wRow (blk PM q) i k)) (fun c _ => 4 - (intOf c).toNat)
  case atStart => exact ⟨0, rfl, Nat.zero_le _, HE.out⟩
  case round =>
    clear HE
    obtain ⟨k, rfl, hk, hE⟩ := hrel
    have HE := hide hE
    clear hE
    by_cases hlt : k < 4
    · have a8 := all8_blk h8 q
      have hrow := HE.out.row
      have x0 : wr.cell? ⟨WB, i, none⟩ = some (.int .u64 ((acc (blk PM q) i k : Nat) : Int)) := by
        have := row64 hrow (i := i) (by rw [wRow_length _ _ _ hi]; omega)
        rw [wRow_at _ _ _ hi] at this
        exact this
      have y0 : wr.cell? ⟨g, 64 * q + 4 * i + k, none⟩ = some (.int .u8 (((blk PM q).getD (4 * i + k) 0 : Nat) : Int)) := by
        have := HE.out.env.msg.cell (i := 64 * q + 4 * i + k) (by omega)
        rw [this, blk_getD PM q (4 * i + k) (by omega), Nat.add_assoc]
      have z0 : wr.frozen? ⟨WB, i, none⟩ = false := blk_free hrow
      have hst := HE.out.step (wRow_step (blk PM q) i k hi) (by rw [wRow_length _ _ _ hi]; omega)
      have hacc := acc_bd a8 i k hlt
      have hby := all8_getD a8 (4 * i + k)
      generalize acc (blk PM q) i k = A at *
      generalize (blk PM q).getD (4 * i + k) 0 = Y at *
      have HSt := hide hst
      have X0 := hide x0
      have Y0 := hide y0
      clear hrow hst x0 y0
      have e1 : IntKind.i64.wrap (4 * (i : Int)) = 4 * (i : Int) := IntWalk.i64_in _ (by omega)
      have e2 : IntKind.i64.wrap ((P : Int) + 4 * (i : Int)) = (P : Int) + 4 * (i : Int) := IntWalk.i64_in _ (by omega)
      have e3 : IntKind.i64.wrap ((P : Int) + 4 * (i : Int) + (k : Int)) = (P : Int) + 4 * (i : Int) + (k : Int) := IntWalk.i64_in _ (by omega)
      have i1 : (0 : Int) ≤ (P : Int) + 4 * (i : Int) + (k : Int) := by omega
      have i2 : (P : Int) + 4 * (i : Int) + (k : Int) < (n : Int) := by omega
      have i3 : ((P : Int) + 4 * (i : Int) + (k : Int)).toNat = P + 4 * i + k := by omega
      have i4 : (i : Int) < 64 := by omega
      have hPn : P + 4 * i + k < n := by omega
      have e4 : IntKind.u64.wrap ((A : Int) * 256) = (A : Int) * 256 := by rw [IntKind.wrap_u64]; omega
      have e5 : IntKind.u64.wrap ((A : Int) * 256 + (Y : Int)) = (A : Int) * 256 + (Y : Int) := by rw [IntKind.wrap_u64]; omega
      have e6 : IntKind.u64.wrap (Y : Int) = (Y : Int) := by rw [IntKind.wrap_u64]; omega
      rw [← hP] at Y0
      have HP := hide hP
      have HN := hide hn
      clear hP hn
      go_wp2_with fail
      have mixed : Tryd.prog.follows Departure.mixedOrders = true := by kernel_rfl
      refine wp_region_keep_tail 19 (fun u => ∃ k, u = wr.drewN k) mixed (by kernel_rfl) ⟨1, rfl⟩ ?_
      simp only [List.take_succ_cons, List.take_zero]
      repeat (first
        | (refine keep_step (v := ?_) (by rfl) (fun u K hS hK => ?_) ?_
           rotate_left
           · obtain ⟨nn, rfl⟩ := hS
             have x1 : (wr.drewN nn).cell? ⟨WB, i, none⟩ = _ := X0.out
             have y1 : (wr.drewN nn).cell? ⟨g, P + 4 * i + k, none⟩ = _ := Y0.out
             (go_simp; with_reducible exact hK _ ⟨nn, rfl⟩)
           simp only [Act.put, List.setIfInBounds_toArray, List.set_cons_zero, List.set_cons_succ]))
      refine keep_nil (fun w3 hS3 => ?_)
      obtain ⟨k3, rfl⟩ := hS3
      simp only [List.drop_succ_cons, List.drop_zero]
      have hst := HSt.out k3
      have x2 : (wr.drewN k3).cell? ⟨WB, i, none⟩ = _ := X0.out
      have z2 : (wr.drewN k3).frozen? ⟨WB, i, none⟩ = false := z0
      have eA : ((A * 256 + Y : Nat) : Int) = (A : Int) * 256 + (Y : Int) := by omega
      rw [eA] at hst
      have HS2 := hide hst
      clear hst eA e1 e2 e3 e4 e5 e6 i1 i2 i3 HSt X0 Y0 HE z0
      generalize wr.drewN k3 = w3 at *
      go_wp2
      go_roundw
      case rel => exact ⟨k + 1, by go_num, by omega, HS2.out⟩
      case measure => simp [intOf]; omega
    · have hk4 : k = 4 := by omega
      subst hk4
      have hx := Hx.out
      go_wp2
      exact HE.out
end Go.Proofs.YtkinpbhbgeiflaaDoor.Sz5
/- The reference's words: sixteen out of the block's bytes. -/
namespace Go.Proofs.YtkinpbhbgeiflaaDoor.Sz4
set_option linter.unusedVariables false
set_option linter.unusedSimpArgs false
set_option maxRecDepth 1000000
open Go.ChangeShapes Go.WideShapes Go.ChangeAt Go.RowKit
open Go.Proofs.YtkinpbhbgeiflaaDoor.Wu Go.Proofs.YtkinpbhbgeiflaaDoor.Sm Go.Proofs.YtkinpbhbgeiflaaDoor.Sk Go.Proofs.YtkinpbhbgeiflaaDoor.Sc Go.Proofs.YtkinpbhbgeiflaaDoor.Sxa Go.Proofs.YtkinpbhbgeiflaaDoor.Sh Go.Proofs.YtkinpbhbgeiflaaDoor.Sn Go.Proofs.YtkinpbhbgeiflaaDoor.Sw0 Go.Proofs.YtkinpbhbgeiflaaDoor.Sf Go.Proofs.YtkinpbhbgeiflaaDoor.So Go.Proofs.YtkinpbhbgeiflaaDoor.Sv Go.Proofs.YtkinpbhbgeiflaaDoor.Ap Go.Proofs.YtkinpbhbgeiflaaDoor.Sr Go.Proofs.YtkinpbhbgeiflaaDoor.Srf0 Go.Proofs.YtkinpbhbgeiflaaDoor.Srf1 Go.Proofs.YtkinpbhbgeiflaaDoor.Rk Go.Proofs.YtkinpbhbgeiflaaDoor.Sza
attribute [local go_sem] kUpon_value kUpon_skip kUpon_enter
set_option maxHeartbeats 6400000 in
theorem loop4 (c0 c1 c4 c5 c13 c14 c15 c16 c17 c18 c19 c20 c21 c22 c23 c24 c25 c26 c27 c28 c29 c30 c31 c32 c33 c34 c35 c36 c37 c38 c39 c40 c41 c42 c43 c44 c45 c46 c47 c48 c49 c50 c51 c52 c53 c54 c55 c56 c57 c58 c59 c60 c88 c89 c90 c91 c92 c93 c94 c95 c96 c97 c98 c99 c100 c101 c102 c103 c104 c105 c106 c107 c108 c109 c110 c111 c112 c113 c114 c115 c116 c117 c118 c119 c120 c121 c122 c123 c124 c125 c126 c127 c128 c129 c130 c131 c132 c133 c134 c135 c136 c137 c138 c139 c140 c141 c142 c143 c144 c145 c146 c147 c148 c149 c150 c151 c152 c153 c154 c155 c156 c157 c158 c159 c160 c161 c162 c163 c164 c165 c166 c167 c168 c169 c170 c171 c172 c173 c174 c175 c176 c177 c178 c179 c180 c181 c182 c183 c184 c185 c186 c187 c188 c189 c190 c191 c192 c193 c194 c195 c196 c197 c198 c199 c200 c201 c202 c203 c204 c205 c206 c207 c208 c209 c210 c211 c212 c213 c214 c215 c216 c217 c218 c219 c220 c221 c222 c223 c224 c225 c226 c227 c228 c229 c230 c231 c232 c233 c234 c235 c236 c237 c238 c239 c240 c241 c242 c243 c244 c245 c246 c247 c248 c249 c250 c251 c252 c253 c254 c255 c256 c257 c258 c259 c260 c261 c262 c263 c264 c265 c266 c267 c268 c269 c270 c271 c272 c273 c274 c275 c276 c277 c278 c279 c280 c281 c282 c283 c284 c285 c286 c287 c288 c289 c290 c291 c292 c293 c294 c295 c296 c297 c298 u12 u61 u62 u63 u64 u65 u66 u67 u68 u69 u70 u71 u72 u73 u74 u75 u76 u77 u78 u79 u80 u81 u82 u83 u84 u85 u86 u87 : Value) (w wr : World) (KB HB g nb cap q WB P n : Nat) (PM : List Nat) (s : S8) (Q : Exit → Act → World → Prop) (hP : P = 64 * q) (hn : n = 64 * nb) (hE : E2 w wr KB HB g nb cap PM s WB (wHead (blk PM q) 0)) (h8 : All8 PM) (hq : q < nb) (hnb : nb ≤ 40000)
    (hexit : ∀ (x11 x12 x61 x62 x63 x64 x65 x66 x67 x68 x69 x70 x71 x72 x73 x74 x75 x76 x77 x78 x79 x80 x81 x82 x83 x84 x85 x86 x87 : Value) (wx : World), E2 w wx KB HB g nb cap PM s WB (wHead (blk PM q) 16) → Q (.exit 6) ⟨List.toArray (c0 :: c1 :: (.pointer (some ⟨w.heap.size, 0, none⟩) : Value) :: (.slice (some ⟨g, 0, none⟩) n cap : Value) :: c4 :: c5 :: (.slice (some ⟨KB, 0, none⟩) 64 64 : Value) :: (.int .u64 4294967296 : Value) :: (.slice (some ⟨HB, 0, none⟩) 8 8 : Value) :: (.int .i64 (P : Int) : Value) :: (.slice (some ⟨WB, 0, none⟩) 64 64 : Value) :: x11 :: x12 :: c13 :: c14 :: c15 :: c16 :: c17 :: c18 :: c19 :: c20 :: c21 :: c22 :: c23 :: c24 :: c25 :: c26 :: c27 :: c28 :: c29 :: c30 :: c31 :: c32 :: c33 :: c34 :: c35 :: c36 :: c37 :: c38 :: c39 :: c40 :: c41 :: c42 :: c43 :: c44 :: c45 :: c46 :: c47 :: c48 :: c49 :: c50 :: c51 :: c52 :: c53 :: c54 :: c55 :: c56 :: c57 :: c58 :: c59 :: c60 :: x61 :: x62 :: x63 :: x64 :: x65 :: x66 :: x67 :: x68 :: x69 :: x70 :: x71 :: x72 :: x73 :: x74 :: x75 :: x76 :: x77 :: x78 :: x79 :: x80 :: x81 :: x82 :: x83 :: x84 :: x85 :: x86 :: x87 :: c88 :: c89 :: c90 :: c91 :: c92 :: c93 :: c94 :: c95 :: c96 :: c97 :: c98 :: c99 :: c100 :: c101 :: c102 :: c103 :: c104 :: c105 :: c106 :: c107 :: c108 :: c109 :: c110 :: c111 :: c112 :: c113 :: c114 :: c115 :: c116 :: c117 :: c118 :: c119 :: c120 :: c121 :: c122 :: c123 :: c124 :: c125 :: c126 :: c127 :: c128 :: c129 :: c130 :: c131 :: c132 :: c133 :: c134 :: c135 :: c136 :: c137 :: c138 :: c139 :: c140 :: c141 :: c142 :: c143 :: c144 :: c145 :: c146 :: c147 :: c148 :: c149 :: c150 :: c151 :: c152 :: c153 :: c154 :: c155 :: c156 :: c157 :: c158 :: c159 :: c160 :: c161 :: c162 :: c163 :: c164 :: c165 :: c166 :: c167 :: c168 :: c169 :: c170 :: c171 :: c172 :: c173 :: c174 :: c175 :: c176 :: c177 :: c178 :: c179 :: c180 :: c181 :: c182 :: c183 :: c184 :: c185 :: c186 :: c187 :: c188 :: c189 :: c190 :: c191 :: c192 :: c193 :: c194 :: c195 :: c196 :: c197 :: c198 :: c199 :: c200 :: c201 :: c202 :: c203 :: c204 :: c205 :: c206 :: c207 :: c208 :: c209 :: c210 :: c211 :: c212 :: c213 :: c214 :: c215 :: c216 :: c217 :: c218 :: c219 :: c220 :: c221 :: c222 :: c223 :: c224 :: c225 :: c226 :: c227 :: c228 :: c229 :: c230 :: c231 :: c232 :: c233 :: c234 :: c235 :: c236 :: c237 :: c238 :: c239 :: c240 :: c241 :: c242 :: c243 :: c244 :: c245 :: c246 :: c247 :: c248 :: c249 :: c250 :: c251 :: c252 :: c253 :: c254 :: c255 :: c256 :: c257 :: c258 :: c259 :: c260 :: c261 :: c262 :: c263 :: c264 :: c265 :: c266 :: c267 :: c268 :: c269 :: c270 :: c271 :: c272 :: c273 :: c274 :: c275 :: c276 :: c277 :: c278 :: c279 :: c280 :: c281 :: c282 :: c283 :: c284 :: c285 :: c286 :: c287 :: c288 :: c289 :: c290 :: c291 :: c292 :: c293 :: c294 :: c295 :: c296 :: c297 :: c298 :: []), []⟩ wx) :
    Code.wp Tryd.prog (lc 3) Q ⟨List.toArray (c0 :: c1 :: (.pointer (some ⟨w.heap.size, 0, none⟩) : Value) :: (.slice (some ⟨g, 0, none⟩) n cap : Value) :: c4 :: c5 :: (.slice (some ⟨KB, 0, none⟩) 64 64 : Value) :: (.int .u64 4294967296 : Value) :: (.slice (some ⟨HB, 0, none⟩) 8 8 : Value) :: (.int .i64 (P : Int) : Value) :: (.slice (some ⟨WB, 0, none⟩) 64 64 : Value) :: (.int .i64 0 : Value) :: u12 :: c13 :: c14 :: c15 :: c16 :: c17 :: c18 :: c19 :: c20 :: c21 :: c22 :: c23 :: c24 :: c25 :: c26 :: c27 :: c28 :: c29 :: c30 :: c31 :: c32 :: c33 :: c34 :: c35 :: c36 :: c37 :: c38 :: c39 :: c40 :: c41 :: c42 :: c43 :: c44 :: c45 :: c46 :: c47 :: c48 :: c49 :: c50 :: c51 :: c52 :: c53 :: c54 :: c55 :: c56 :: c57 :: c58 :: c59 :: c60 :: u61 :: u62 :: u63 :: u64 :: u65 :: u66 :: u67 :: u68 :: u69 :: u70 :: u71 :: u72 :: u73 :: u74 :: u75 :: u76 :: u77 :: u78 :: u79 :: u80 :: u81 :: u82 :: u83 :: u84 :: u85 :: u86 :: u87 :: c88 :: c89 :: c90 :: c91 :: c92 :: c93 :: c94 :: c95 :: c96 :: c97 :: c98 :: c99 :: c100 :: c101 :: c102 :: c103 :: c104 :: c105 :: c106 :: c107 :: c108 :: c109 :: c110 :: c111 :: c112 :: c113 :: c114 :: c115 :: c116 :: c117 :: c118 :: c119 :: c120 :: c121 :: c122 :: c123 :: c124 :: c125 :: c126 :: c127 :: c128 :: c129 :: c130 :: c131 :: c132 :: c133 :: c134 :: c135 :: c136 :: c137 :: c138 :: c139 :: c140 :: c141 :: c142 :: c143 :: c144 :: c145 :: c146 :: c147 :: c148 :: c149 :: c150 :: c151 :: c152 :: c153 :: c154 :: c155 :: c156 :: c157 :: c158 :: c159 :: c160 :: c161 :: c162 :: c163 :: c164 :: c165 :: c166 :: c167 :: c168 :: c169 :: c170 :: c171 :: c172 :: c173 :: c174 :: c175 :: c176 :: c177 :: c178 :: c179 :: c180 :: c181 :: c182 :: c183 :: c184 :: c185 :: c186 :: c187 :: c188 :: c189 :: c190 :: c191 :: c192 :: c193 :: c194 :: c195 :: c196 :: c197 :: c198 :: c199 :: c200 :: c201 :: c202 :: c203 :: c204 :: c205 :: c206 :: c207 :: c208 :: c209 :: c210 :: c211 :: c212 :: c213 :: c214 :: c215 :: c216 :: c217 :: c218 :: c219 :: c220 :: c221 :: c222 :: c223 :: c224 :: c225 :: c226 :: c227 :: c228 :: c229 :: c230 :: c231 :: c232 :: c233 :: c234 :: c235 :: c236 :: c237 :: c238 :: c239 :: c240 :: c241 :: c242 :: c243 :: c244 :: c245 :: c246 :: c247 :: c248 :: c249 :: c250 :: c251 :: c252 :: c253 :: c254 :: c255 :: c256 :: c257 :: c258 :: c259 :: c260 :: c261 :: c262 :: c263 :: c264 :: c265 :: c266 :: c267 :: c268 :: c269 :: c270 :: c271 :: c272 :: c273 :: c274 :: c275 :: c276 :: c277 :: c278 :: c279 :: c280 :: c281 :: c282 :: c283 :: c284 :: c285 :: c286 :: c287 :: c288 :: c289 :: c290 :: c291 :: c292 :: c293 :: c294 :: c295 :: c296 :: c297 :: c298 :: []), []⟩ wr := by
  conv => arg 2; whnf
  have HE := hide hE
  have Hx := hide hexit
  clear hE hexit
  go_loopw [11] (fun c wr => ∃ k : Nat, c = .int .i64 (k : Int) ∧ k ≤ 16 ∧ E2 w wr KB HB g nb cap PM s WB (wHead (blk PM q) k)) (fun c _ => 16 - (intOf c).toNat)
  case atStart => exact ⟨0, rfl, Nat.zero_le _, HE.out⟩
  case round =>
    clear HE
    obtain ⟨k, rfl, hk, hE⟩ := hrel
    have HE := hide hE
    clear hE
    by_cases hlt : k < 16
    · have hE := HE.out
      rw [wHead_row _ _ hlt] at hE
      have HE := hide hE
      clear hE
      have d1 : decide ((k : Int) < 16) = true := by simp; omega
      have d1' : decide (k < 16) = true := by simp; omega
      go_wp2_with fail
      refine Sz5.loop5 _ _ _ _ _ _ _ _ _ _ _ _ _ _ _ _ _ _ _ _ _ _ _ _ _ _ _ _ _ _ _ _ _ _ _ _ _ _ _ _ _ _ _ _ _ _ _ _ _ _ _ _ _ _ _ _ _ _ _ _ _ _ _ _ _ _ _ _ _ _ _ _ _ _ _ _ _ _ _ _ _ _ _ _ _ _ _ _ _ _ _ _ _ _ _ _ _ _ _ _ _ _ _ _ _ _ _ _ _ _ _ _ _ _ _ _ _ _ _ _ _ _ _ _ _ _ _ _ _ _ _ _ _ _ _ _ _ _ _ _ _ _ _ _ _ _ _ _ _ _ _ _ _ _ _ _ _ _ _ _ _ _ _ _ _ _ _ _ _ _ _ _ _ _ _ _ _ _ _ _ _ _ _ _ _ _ _ _ _ _ _ _ _ _ _ _ _ _ _ _ _ _ _ _ _ _ _ _ _ _ _ _ _ _ _ _ _ _ _ _ _ _ _ _ _ _ _ _ _ _ _ _ _ _ _ _ _ _ _ _ _ _ _ _ _ _ _ _ _ _ _ _ _ _ _ _ _ _ _ _ _ _ _ _ _ _ _ _ _ _ _ _ _ _ _ _ _ _ _ _ _ _ _ _ _ _ _ _ _ _ w wr KB HB g nb cap q WB P n PM s _ hP hn k HE.out h8 hq hnb hlt ?_
      intro x12 x65 x66 x67 x68 x69 x70 x71 x72 x73 x74 x75 x76 x77 x78 x79 x80 x81 x82 x83 x84 x85 x86 x87 wx hx
      rw [wRow_head _ _ hlt] at hx
      have HX := hide hx
      clear hx HE
      go_wp2
      go_roundw
      case rel => exact ⟨k + 1, by go_num, by omega, HX.out⟩
      case measure => simp [intOf]; omega
    · have hk4 : k = 16 := by omega
      subst hk4
      have hx := Hx.out
      go_wp2
      exact HE.out
end Go.Proofs.YtkinpbhbgeiflaaDoor.Sz4
/- The reference's words: the others. -/
namespace Go.Proofs.YtkinpbhbgeiflaaDoor.Sz6
set_option linter.unusedVariables false
set_option linter.unusedSimpArgs false
set_option maxRecDepth 1000000
open Go.ChangeShapes Go.WideShapes Go.ChangeAt Go.RowKit
open Go.Proofs.YtkinpbhbgeiflaaDoor.Wu Go.Proofs.YtkinpbhbgeiflaaDoor.Sm Go.Proofs.YtkinpbhbgeiflaaDoor.Sk Go.Proofs.YtkinpbhbgeiflaaDoor.Sc Go.Proofs.YtkinpbhbgeiflaaDoor.Sxa Go.Proofs.YtkinpbhbgeiflaaDoor.Sh Go.Proofs.YtkinpbhbgeiflaaDoor.Sn Go.Proofs.YtkinpbhbgeiflaaDoor.Sw0 Go.Proofs.YtkinpbhbgeiflaaDoor.Sf Go.Proofs.YtkinpbhbgeiflaaDoor.So Go.Proofs.YtkinpbhbgeiflaaDoor.Sv Go.Proofs.YtkinpbhbgeiflaaDoor.Ap Go.Proofs.YtkinpbhbgeiflaaDoor.Sr Go.Proofs.YtkinpbhbgeiflaaDoor.Srf0 Go.Proofs.YtkinpbhbgeiflaaDoor.Srf1 Go.Proofs.YtkinpbhbgeiflaaDoor.Rk Go.Proofs.YtkinpbhbgeiflaaDoor.Sza
attribute [local go_sem] kUpon_value kUpon_skip kUpon_enter
set_option maxHeartbeats 6400000 in
theorem loop6 (c0 c1 c4 c5 c11 c12 c16 c17 c18 c19 c20 c21 c22 c23 c24 c25 c26 c27 c28 c29 c30 c31 c32 c33 c34 c35 c36 c37 c38 c39 c40 c41 c42 c43 c44 c45 c46 c47 c48 c49 c50 c51 c52 c53 c54 c55 c56 c57 c58 c59 c60 c61 c62 c63 c64 c65 c66 c67 c68 c69 c70 c71 c72 c73 c74 c75 c76 c77 c78 c79 c80 c81 c82 c83 c84 c85 c86 c87 c136 c137 c138 c139 c140 c141 c142 c143 c144 c145 c146 c147 c148 c149 c150 c151 c152 c153 c154 c155 c156 c157 c158 c159 c160 c161 c162 c163 c164 c165 c166 c167 c168 c169 c170 c171 c172 c173 c174 c175 c176 c177 c178 c179 c180 c181 c182 c183 c184 c185 c186 c187 c188 c189 c190 c191 c192 c193 c194 c195 c196 c197 c198 c199 c200 c201 c202 c203 c204 c205 c206 c207 c208 c209 c210 c211 c212 c213 c214 c215 c216 c217 c218 c219 c220 c221 c222 c223 c224 c225 c226 c227 c228 c229 c230 c231 c232 c233 c234 c235 c236 c237 c238 c239 c240 c241 c242 c243 c244 c245 c246 c247 c248 c249 c250 c251 c252 c253 c254 c255 c256 c257 c258 c259 c260 c261 c262 c263 c264 c265 c266 c267 c268 c269 c270 c271 c272 c273 c274 c275 c276 c277 c278 c279 c280 c281 c282 c283 c284 c285 c286 c287 c288 c289 c290 c291 c292 c293 c294 c295 c296 c297 c298 u14 u15 u88 u89 u90 u91 u92 u93 u94 u95 u96 u97 u98 u99 u100 u101 u102 u103 u104 u105 u106 u107 u108 u109 u110 u111 u112 u113 u114 u115 u116 u117 u118 u119 u120 u121 u122 u123 u124 u125 u126 u127 u128 u129 u130 u131 u132 u133 u134 u135 : Value) (w wr : World) (KB HB g nb cap q WB P n : Nat) (PM : List Nat) (s : S8) (Q : Exit → Act → World → Prop) (hP : P = 64 * q) (hn : n = 64 * nb) (hE : E2 w wr KB HB g nb cap PM s WB (eRow (blk PM q) 0)) (h8 : All8 PM)
    (hexit : ∀ (x13 x14 x15 x88 x89 x90 x91 x92 x93 x94 x95 x96 x97 x98 x99 x100 x101 x102 x103 x104 x105 x106 x107 x108 x109 x110 x111 x112 x113 x114 x115 x116 x117 x118 x119 x120 x121 x122 x123 x124 x125 x126 x127 x128 x129 x130 x131 x132 x133 x134 x135 : Value) (wx : World), E2 w wx KB HB g nb cap PM s WB (sched (blk PM q)) → Q (.exit 10) ⟨List.toArray (c0 :: c1 :: (.pointer (some ⟨w.heap.size, 0, none⟩) : Value) :: (.slice (some ⟨g, 0, none⟩) n cap : Value) :: c4 :: c5 :: (.slice (some ⟨KB, 0, none⟩) 64 64 : Value) :: (.int .u64 4294967296 : Value) :: (.slice (some ⟨HB, 0, none⟩) 8 8 : Value) :: (.int .i64 (P : Int) : Value) :: (.slice (some ⟨WB, 0, none⟩) 64 64 : Value) :: c11 :: c12 :: x13 :: x14 :: x15 :: c16 :: c17 :: c18 :: c19 :: c20 :: c21 :: c22 :: c23 :: c24 :: c25 :: c26 :: c27 :: c28 :: c29 :: c30 :: c31 :: c32 :: c33 :: c34 :: c35 :: c36 :: c37 :: c38 :: c39 :: c40 :: c41 :: c42 :: c43 :: c44 :: c45 :: c46 :: c47 :: c48 :: c49 :: c50 :: c51 :: c52 :: c53 :: c54 :: c55 :: c56 :: c57 :: c58 :: c59 :: c60 :: c61 :: c62 :: c63 :: c64 :: c65 :: c66 :: c67 :: c68 :: c69 :: c70 :: c71 :: c72 :: c73 :: c74 :: c75 :: c76 :: c77 :: c78 :: c79 :: c80 :: c81 :: c82 :: c83 :: c84 :: c85 :: c86 :: c87 :: x88 :: x89 :: x90 :: x91 :: x92 :: x93 :: x94 :: x95 :: x96 :: x97 :: x98 :: x99 :: x100 :: x101 :: x102 :: x103 :: x104 :: x105 :: x106 :: x107 :: x108 :: x109 :: x110 :: x111 :: x112 :: x113 :: x114 :: x115 :: x116 :: x117 :: x118 :: x119 :: x120 :: x121 :: x122 :: x123 :: x124 :: x125 :: x126 :: x127 :: x128 :: x129 :: x130 :: x131 :: x132 :: x133 :: x134 :: x135 :: c136 :: c137 :: c138 :: c139 :: c140 :: c141 :: c142 :: c143 :: c144 :: c145 :: c146 :: c147 :: c148 :: c149 :: c150 :: c151 :: c152 :: c153 :: c154 :: c155 :: c156 :: c157 :: c158 :: c159 :: c160 :: c161 :: c162 :: c163 :: c164 :: c165 :: c166 :: c167 :: c168 :: c169 :: c170 :: c171 :: c172 :: c173 :: c174 :: c175 :: c176 :: c177 :: c178 :: c179 :: c180 :: c181 :: c182 :: c183 :: c184 :: c185 :: c186 :: c187 :: c188 :: c189 :: c190 :: c191 :: c192 :: c193 :: c194 :: c195 :: c196 :: c197 :: c198 :: c199 :: c200 :: c201 :: c202 :: c203 :: c204 :: c205 :: c206 :: c207 :: c208 :: c209 :: c210 :: c211 :: c212 :: c213 :: c214 :: c215 :: c216 :: c217 :: c218 :: c219 :: c220 :: c221 :: c222 :: c223 :: c224 :: c225 :: c226 :: c227 :: c228 :: c229 :: c230 :: c231 :: c232 :: c233 :: c234 :: c235 :: c236 :: c237 :: c238 :: c239 :: c240 :: c241 :: c242 :: c243 :: c244 :: c245 :: c246 :: c247 :: c248 :: c249 :: c250 :: c251 :: c252 :: c253 :: c254 :: c255 :: c256 :: c257 :: c258 :: c259 :: c260 :: c261 :: c262 :: c263 :: c264 :: c265 :: c266 :: c267 :: c268 :: c269 :: c270 :: c271 :: c272 :: c273 :: c274 :: c275 :: c276 :: c277 :: c278 :: c279 :: c280 :: c281 :: c282 :: c283 :: c284 :: c285 :: c286 :: c287 :: c288 :: c289 :: c290 :: c291 :: c292 :: c293 :: c294 :: c295 :: c296 :: c297 :: c298 :: []), []⟩ wx) :
    Code.wp Tryd.prog (lc 5) Q ⟨List.toArray (c0 :: c1 :: (.pointer (some ⟨w.heap.size, 0, none⟩) : Value) :: (.slice (some ⟨g, 0, none⟩) n cap : Value) :: c4 :: c5 :: (.slice (some ⟨KB, 0, none⟩) 64 64 : Value) :: (.int .u64 4294967296 : Value) :: (.slice (some ⟨HB, 0, none⟩) 8 8 : Value) :: (.int .i64 (P : Int) : Value) :: (.slice (some ⟨WB, 0, none⟩) 64 64 : Value) :: c11 :: c12 :: (.int .i64 16 : Value) :: u14 :: u15 :: c16 :: c17 :: c18 :: c19 :: c20 :: c21 :: c22 :: c23 :: c24 :: c25 :: c26 :: c27 :: c28 :: c29 :: c30 :: c31 :: c32 :: c33 :: c34 :: c35 :: c36 :: c37 :: c38 :: c39 :: c40 :: c41 :: c42 :: c43 :: c44 :: c45 :: c46 :: c47 :: c48 :: c49 :: c50 :: c51 :: c52 :: c53 :: c54 :: c55 :: c56 :: c57 :: c58 :: c59 :: c60 :: c61 :: c62 :: c63 :: c64 :: c65 :: c66 :: c67 :: c68 :: c69 :: c70 :: c71 :: c72 :: c73 :: c74 :: c75 :: c76 :: c77 :: c78 :: c79 :: c80 :: c81 :: c82 :: c83 :: c84 :: c85 :: c86 :: c87 :: u88 :: u89 :: u90 :: u91 :: u92 :: u93 :: u94 :: u95 :: u96 :: u97 :: u98 :: u99 :: u100 :: u101 :: u102 :: u103 :: u104 :: u105 :: u106 :: u107 :: u108 :: u109 :: u110 :: u111 :: u112 :: u113 :: u114 :: u115 :: u116 :: u117 :: u118 :: u119 :: u120 :: u121 :: u122 :: u123 :: u124 :: u125 :: u126 :: u127 :: u128 :: u129 :: u130 :: u131 :: u132 :: u133 :: u134 :: u135 :: c136 :: c137 :: c138 :: c139 :: c140 :: c141 :: c142 :: c143 :: c144 :: c145 :: c146 :: c147 :: c148 :: c149 :: c150 :: c151 :: c152 :: c153 :: c154 :: c155 :: c156 :: c157 :: c158 :: c159 :: c160 :: c161 :: c162 :: c163 :: c164 :: c165 :: c166 :: c167 :: c168 :: c169 :: c170 :: c171 :: c172 :: c173 :: c174 :: c175 :: c176 :: c177 :: c178 :: c179 :: c180 :: c181 :: c182 :: c183 :: c184 :: c185 :: c186 :: c187 :: c188 :: c189 :: c190 :: c191 :: c192 :: c193 :: c194 :: c195 :: c196 :: c197 :: c198 :: c199 :: c200 :: c201 :: c202 :: c203 :: c204 :: c205 :: c206 :: c207 :: c208 :: c209 :: c210 :: c211 :: c212 :: c213 :: c214 :: c215 :: c216 :: c217 :: c218 :: c219 :: c220 :: c221 :: c222 :: c223 :: c224 :: c225 :: c226 :: c227 :: c228 :: c229 :: c230 :: c231 :: c232 :: c233 :: c234 :: c235 :: c236 :: c237 :: c238 :: c239 :: c240 :: c241 :: c242 :: c243 :: c244 :: c245 :: c246 :: c247 :: c248 :: c249 :: c250 :: c251 :: c252 :: c253 :: c254 :: c255 :: c256 :: c257 :: c258 :: c259 :: c260 :: c261 :: c262 :: c263 :: c264 :: c265 :: c266 :: c267 :: c268 :: c269 :: c270 :: c271 :: c272 :: c273 :: c274 :: c275 :: c276 :: c277 :: c278 :: c279 :: c280 :: c281 :: c282 :: c283 :: c284 :: c285 :: c286 :: c287 :: c288 :: c289 :: c290 :: c291 :: c292 :: c293 :: c294 :: c295 :: c296 :: c297 :: c298 :: []), []⟩ wr := by
  conv => arg 2; whnf
  have HE := hide hE
  have Hx := hide hexit
  clear hE hexit hP hn
  go_loopw [13] (fun c wr => ∃ j i : Nat, c = .int .i64 (i : Int) ∧ i = 16 + j ∧ j ≤ 48 ∧ E2 w wr KB HB g nb cap PM s WB (eRow (blk PM q) j)) (fun c _ => 64 - (intOf c).toNat)
  case atStart => exact ⟨0, 16, rfl, rfl, Nat.zero_le _, HE.out⟩
  case round =>
    clear HE
    obtain ⟨j, i, rfl, hi, hj, hE⟩ := hrel
    have HE := hide hE
    clear hE
    by_cases hlt : j < 48
    · have d1 : decide ((i : Int) < 64) = true := by simp; omega
      have d1' : decide (i < 64) = true := by simp; omega
      have hrow := HE.out.row
      have a32 := eRow_all (all8_blk h8 q) j
      have rl := eRow_length (blk PM q) j hj
      have x15 := row64 hrow (i := j + 1) (by rw [rl]; omega)
      have x2 := row64 hrow (i := j + 14) (by rw [rl]; omega)
      have x16 := row64 hrow (i := j) (by rw [rl]; omega)
      have x7 := row64 hrow (i := j + 9) (by rw [rl]; omega)
      have xi := row64 hrow (i := i) (by rw [rl]; omega)
      have zi : wr.frozen? ⟨WB, i, none⟩ = false := blk_free hrow
      have hnx := nxt_is (blk PM q) j
      have b15 := all32_getD a32 (j + 1)
      have b2 := all32_getD a32 (j + 14)
      have b16 := all32_getD a32 j
      have b7 := all32_getD a32 (j + 9)
      have hst := HE.out.step (eRow_step (blk PM q) j hlt) (by rw [rl]; omega)
      rw [hnx, ← hi] at hst
      generalize (eRow (blk PM q) j).getD (j + 1) 0 = X at *
      generalize (eRow (blk PM q) j).getD (j + 14) 0 = Y at *
      generalize (eRow (blk PM q) j).getD j 0 = A at *
      generalize (eRow (blk PM q) j).getD (j + 9) 0 = B at *
      generalize (eRow (blk PM q) j).getD i 0 = O at *
      have HSt := hide hst
      clear hst hnx a32 rl hrow
      have X15 : Hid (wr.cell? ⟨WB, i - 15, none⟩ = some (.int .u64 (X : Int))) := hide (by rw [show i - 15 = j + 1 by omega]; exact x15)
      have X2 : Hid (wr.cell? ⟨WB, i - 2, none⟩ = some (.int .u64 (Y : Int))) := hide (by rw [show i - 2 = j + 14 by omega]; exact x2)
      have X16 : Hid (wr.cell? ⟨WB, i - 16, none⟩ = some (.int .u64 (A : Int))) := hide (by rw [show i - 16 = j by omega]; exact x16)
      have X7 : Hid (wr.cell? ⟨WB, i - 7, none⟩ = some (.int .u64 (B : Int))) := hide (by rw [show i - 7 = j + 9 by omega]; exact x7)
      have XI := hide xi
      have hi1 : 16 ≤ i := by omega
      have hi2 : i < 64 := by omega
      have Hi := hide hi
      clear x15 x2 x16 x7 xi hi
      have e15 : IntKind.i64.wrap ((i : Int) - 15) = (i : Int) - 15 := IntWalk.i64_in _ (by omega)
      have e2 : IntKind.i64.wrap ((i : Int) - 2) = (i : Int) - 2 := IntWalk.i64_in _ (by omega)
      have e16 : IntKind.i64.wrap ((i : Int) - 16) = (i : Int) - 16 := IntWalk.i64_in _ (by omega)
      have e7 : IntKind.i64.wrap ((i : Int) - 7) = (i : Int) - 7 := IntWalk.i64_in _ (by omega)
      have n15 : (0 : Int) ≤ (i : Int) - 15 := by omega
      have n2 : (0 : Int) ≤ (i : Int) - 2 := by omega
      have n16 : (0 : Int) ≤ (i : Int) - 16 := by omega
      have n7 : (0 : Int) ≤ (i : Int) - 7 := by omega
      have m15 : (15 : Int) ≤ (i : Int) := by omega
      have m2 : (2 : Int) ≤ (i : Int) := by omega
      have m16 : (16 : Int) ≤ (i : Int) := by omega
      have m7 : (7 : Int) ≤ (i : Int) := by omega
      have li : (i : Int) < 64 := by omega
      have l15 : (i : Int) - 15 < 64 := by omega
      have l2 : (i : Int) - 2 < 64 := by omega
      have l16 : (i : Int) - 16 < 64 := by omega
      have l7 : (i : Int) - 7 < 64 := by omega
      have t15 : ((i : Int) - 15).toNat = i - 15 := by omega
      have t2 : ((i : Int) - 2).toNat = i - 2 := by omega
      have t16 : ((i : Int) - 16).toNat = i - 16 := by omega
      have t7 : ((i : Int) - 7).toNat = i - 7 := by omega
      go_wp2_with fail
      have mixed : Tryd.prog.follows Departure.mixedOrders = true := by kernel_rfl
      refine wp_region_keep (fun u => ∃ k, u = wr.drewN k) mixed (by kernel_rfl) ⟨1, rfl⟩ ?_
      repeat (first
        | (refine keep_step (v := ?_) (by rfl) (fun u K hS hK => ?_) ?_
           rotate_left
           · obtain ⟨nn, rfl⟩ := hS
             have y15 : (wr.drewN nn).cell? ⟨WB, i - 15, none⟩ = _ := X15.out
             have y2 : (wr.drewN nn).cell? ⟨WB, i - 2, none⟩ = _ := X2.out
             (go_simp; with_reducible exact hK _ ⟨nn, rfl⟩)
           simp only [Act.put, List.setIfInBounds_toArray, List.set_cons_zero, List.set_cons_succ]))
      refine keep_nil (fun w3 hS3 => ?_)
      obtain ⟨k3, rfl⟩ := hS3
      go_wp2_with fail
      have HR := hide (fun (x n k : Nat) (hx : x < 4294967296) (hn : 1 ≤ n) (hn' : n ≤ 31) => right_c x n (wr.drewN k) hx hn hn')
      refine wp_region_keep_tail 34 (fun u => ∃ k, u = wr.drewN k) mixed (by kernel_rfl) ⟨k3 + 1, rfl⟩ ?_
      simp only [List.take_succ_cons, List.take_zero]
      repeat (first
        | (refine keep_step (v := ?_) (by rfl) (fun u K hS hK => ?_) ?_
           rotate_left
           · obtain ⟨nn, rfl⟩ := hS
             have y16 : (wr.drewN nn).cell? ⟨WB, i - 16, none⟩ = _ := X16.out
             have y7 : (wr.drewN nn).cell? ⟨WB, i - 7, none⟩ = _ := X7.out
             (go_simp; first
               | (with_reducible exact hK _ ⟨nn, rfl⟩)
               | (go_at_call 129; (with_reducible refine Calls.mono (HR.out X 7 nn b15 (by omega) (by omega)) ?_); rintro e u2 ⟨rfl, kk, rfl⟩; exact hK _ ⟨nn + kk, drewN_add _ _ _⟩)
               | (go_at_call 129; (with_reducible refine Calls.mono (HR.out X 18 nn b15 (by omega) (by omega)) ?_); rintro e u2 ⟨rfl, kk, rfl⟩; exact hK _ ⟨nn + kk, drewN_add _ _ _⟩)
               | (go_at_call 129; (with_reducible refine Calls.mono (HR.out Y 17 nn b2 (by omega) (by omega)) ?_); rintro e u2 ⟨rfl, kk, rfl⟩; exact hK _ ⟨nn + kk, drewN_add _ _ _⟩)
               | (go_at_call 129; (with_reducible refine Calls.mono (HR.out Y 19 nn b2 (by omega) (by omega)) ?_); rintro e u2 ⟨rfl, kk, rfl⟩; exact hK _ ⟨nn + kk, drewN_add _ _ _⟩))
           simp only [Act.put, List.setIfInBounds_toArray, List.set_cons_zero, List.set_cons_succ]))
      refine keep_nil (fun w3 hS3 => ?_)
      obtain ⟨k4, rfl⟩ := hS3
      simp only [List.drop_succ_cons, List.drop_zero]
      have y3 : (wr.drewN k4).cell? ⟨WB, i, none⟩ = _ := XI.out
      have z2 : (wr.drewN k4).frozen? ⟨WB, i, none⟩ = false := zi
      have HS2 := hide (HSt.out k4)
      generalize wr.drewN k4 = w3 at *
      clear X15 X2 X16 X7 XI HE HR HSt
      go_wp2
      go_roundw
      case rel =>
        refine ⟨j + 1, i + 1, by go_num, by have := Hi.out; omega, by omega, ?_⟩
        rw [word_eq A X B Y b16 b15 b7 b2]
        exact HS2.out
      case measure => simp [intOf]; omega
    · have hj4 : j = 48 := by omega
      subst hj4
      subst hi
      have hE := HE.out
      rw [eRow_end] at hE
      have HE := hide hE
      clear hE
      have hx := Hx.out
      go_wp2
      exact HE.out
end Go.Proofs.YtkinpbhbgeiflaaDoor.Sz6
/- The reference's rounds. -/
namespace Go.Proofs.YtkinpbhbgeiflaaDoor.Sz7
set_option linter.unusedVariables false
set_option linter.unusedSimpArgs false
set_option maxRecDepth 1000000
open Go.ChangeShapes Go.WideShapes Go.ChangeAt Go.RowKit
open Go.Proofs.YtkinpbhbgeiflaaDoor.Wu Go.Proofs.YtkinpbhbgeiflaaDoor.Sm Go.Proofs.YtkinpbhbgeiflaaDoor.Sk Go.Proofs.YtkinpbhbgeiflaaDoor.Sc Go.Proofs.YtkinpbhbgeiflaaDoor.Sxa Go.Proofs.YtkinpbhbgeiflaaDoor.Sh Go.Proofs.YtkinpbhbgeiflaaDoor.Sn Go.Proofs.YtkinpbhbgeiflaaDoor.Sw0 Go.Proofs.YtkinpbhbgeiflaaDoor.Sf Go.Proofs.YtkinpbhbgeiflaaDoor.So Go.Proofs.YtkinpbhbgeiflaaDoor.Sv Go.Proofs.YtkinpbhbgeiflaaDoor.Ap Go.Proofs.YtkinpbhbgeiflaaDoor.Sr Go.Proofs.YtkinpbhbgeiflaaDoor.Srf0 Go.Proofs.YtkinpbhbgeiflaaDoor.Srf1 Go.Proofs.YtkinpbhbgeiflaaDoor.Rk Go.Proofs.YtkinpbhbgeiflaaDoor.Sza
attribute [local go_sem] kUpon_value kUpon_skip kUpon_enter
set_option maxHeartbeats 12800000 in
theorem loop7 (c0 c1 c4 c5 c11 c12 c13 c14 c15 c22 c23 c24 c25 c26 c27 c28 c29 c30 c31 c32 c33 c34 c35 c36 c37 c38 c39 c40 c41 c42 c43 c44 c45 c46 c47 c48 c49 c50 c51 c52 c53 c54 c55 c56 c57 c58 c59 c60 c61 c62 c63 c64 c65 c66 c67 c68 c69 c70 c71 c72 c73 c74 c75 c76 c77 c78 c79 c80 c81 c82 c83 c84 c85 c86 c87 c88 c89 c90 c91 c92 c93 c94 c95 c96 c97 c98 c99 c100 c101 c102 c103 c104 c105 c106 c107 c108 c109 c110 c111 c112 c113 c114 c115 c116 c117 c118 c119 c120 c121 c122 c123 c124 c125 c126 c127 c128 c129 c130 c131 c132 c133 c134 c135 c136 c137 c138 c261 c262 c263 c264 c265 c266 c267 c268 c269 c270 c271 c272 c273 c274 c275 c276 c277 c278 c279 c280 c281 c282 c283 c284 c285 c286 c287 c288 c289 c290 c291 c292 c293 c294 c295 c296 c297 c298 u18 u19 u20 u21 u139 u140 u141 u142 u143 u144 u145 u146 u147 u148 u149 u150 u151 u152 u153 u154 u155 u156 u157 u158 u159 u160 u161 u162 u163 u164 u165 u166 u167 u168 u169 u170 u171 u172 u173 u174 u175 u176 u177 u178 u179 u180 u181 u182 u183 u184 u185 u186 u187 u188 u189 u190 u191 u192 u193 u194 u195 u196 u197 u198 u199 u200 u201 u202 u203 u204 u205 u206 u207 u208 u209 u210 u211 u212 u213 u214 u215 u216 u217 u218 u219 u220 u221 u222 u223 u224 u225 u226 u227 u228 u229 u230 u231 u232 u233 u234 u235 u236 u237 u238 u239 u240 u241 u242 u243 u244 u245 u246 u247 u248 u249 u250 u251 u252 u253 u254 u255 u256 u257 u258 u259 u260 : Value) (w wr : World) (KB HB g nb cap q WB P n : Nat) (PM : List Nat) (s : S8) (Q : Exit → Act → World → Prop) (hP : P = 64 * q) (hn : n = 64 * nb) (VB vc : Nat) (hvc : 8 ≤ vc) (hvm : vc ≤ 9223372036854775807) (hE : E2 w wr KB HB g nb cap PM s WB (sched (blk PM q))) (hV : V8 wr VB s) (hs : s.ok) (h8 : All8 PM)
    (hexit : ∀ (x17 x18 x19 x20 x21 x139 x140 x141 x142 x143 x144 x145 x146 x147 x148 x149 x150 x151 x152 x153 x154 x155 x156 x157 x158 x159 x160 x161 x162 x163 x164 x165 x166 x167 x168 x169 x170 x171 x172 x173 x174 x175 x176 x177 x178 x179 x180 x181 x182 x183 x184 x185 x186 x187 x188 x189 x190 x191 x192 x193 x194 x195 x196 x197 x198 x199 x200 x201 x202 x203 x204 x205 x206 x207 x208 x209 x210 x211 x212 x213 x214 x215 x216 x217 x218 x219 x220 x221 x222 x223 x224 x225 x226 x227 x228 x229 x230 x231 x232 x233 x234 x235 x236 x237 x238 x239 x240 x241 x242 x243 x244 x245 x246 x247 x248 x249 x250 x251 x252 x253 x254 x255 x256 x257 x258 x259 x260 : Value) (vb vx : Nat) (wx : World), 8 ≤ vx → vx ≤ 9223372036854775807 → E2 w wx KB HB g nb cap PM s WB (sched (blk PM q)) → V8 wx vb (rounds (sched (blk PM q)) s 64) → vb ≠ HB → Q (.exit 12) ⟨List.toArray (c0 :: c1 :: (.pointer (some ⟨w.heap.size, 0, none⟩) : Value) :: (.slice (some ⟨g, 0, none⟩) n cap : Value) :: c4 :: c5 :: (.slice (some ⟨KB, 0, none⟩) 64 64 : Value) :: (.int .u64 4294967296 : Value) :: (.slice (some ⟨HB, 0, none⟩) 8 8 : Value) :: (.int .i64 (P : Int) : Value) :: (.slice (some ⟨WB, 0, none⟩) 64 64 : Value) :: c11 :: c12 :: c13 :: c14 :: c15 :: (.slice (some ⟨vb, 0, none⟩) 8 vx : Value) :: x17 :: x18 :: x19 :: x20 :: x21 :: c22 :: c23 :: c24 :: c25 :: c26 :: c27 :: c28 :: c29 :: c30 :: c31 :: c32 :: c33 :: c34 :: c35 :: c36 :: c37 :: c38 :: c39 :: c40 :: c41 :: c42 :: c43 :: c44 :: c45 :: c46 :: c47 :: c48 :: c49 :: c50 :: c51 :: c52 :: c53 :: c54 :: c55 :: c56 :: c57 :: c58 :: c59 :: c60 :: c61 :: c62 :: c63 :: c64 :: c65 :: c66 :: c67 :: c68 :: c69 :: c70 :: c71 :: c72 :: c73 :: c74 :: c75 :: c76 :: c77 :: c78 :: c79 :: c80 :: c81 :: c82 :: c83 :: c84 :: c85 :: c86 :: c87 :: c88 :: c89 :: c90 :: c91 :: c92 :: c93 :: c94 :: c95 :: c96 :: c97 :: c98 :: c99 :: c100 :: c101 :: c102 :: c103 :: c104 :: c105 :: c106 :: c107 :: c108 :: c109 :: c110 :: c111 :: c112 :: c113 :: c114 :: c115 :: c116 :: c117 :: c118 :: c119 :: c120 :: c121 :: c122 :: c123 :: c124 :: c125 :: c126 :: c127 :: c128 :: c129 :: c130 :: c131 :: c132 :: c133 :: c134 :: c135 :: c136 :: c137 :: c138 :: x139 :: x140 :: x141 :: x142 :: x143 :: x144 :: x145 :: x146 :: x147 :: x148 :: x149 :: x150 :: x151 :: x152 :: x153 :: x154 :: x155 :: x156 :: x157 :: x158 :: x159 :: x160 :: x161 :: x162 :: x163 :: x164 :: x165 :: x166 :: x167 :: x168 :: x169 :: x170 :: x171 :: x172 :: x173 :: x174 :: x175 :: x176 :: x177 :: x178 :: x179 :: x180 :: x181 :: x182 :: x183 :: x184 :: x185 :: x186 :: x187 :: x188 :: x189 :: x190 :: x191 :: x192 :: x193 :: x194 :: x195 :: x196 :: x197 :: x198 :: x199 :: x200 :: x201 :: x202 :: x203 :: x204 :: x205 :: x206 :: x207 :: x208 :: x209 :: x210 :: x211 :: x212 :: x213 :: x214 :: x215 :: x216 :: x217 :: x218 :: x219 :: x220 :: x221 :: x222 :: x223 :: x224 :: x225 :: x226 :: x227 :: x228 :: x229 :: x230 :: x231 :: x232 :: x233 :: x234 :: x235 :: x236 :: x237 :: x238 :: x239 :: x240 :: x241 :: x242 :: x243 :: x244 :: x245 :: x246 :: x247 :: x248 :: x249 :: x250 :: x251 :: x252 :: x253 :: x254 :: x255 :: x256 :: x257 :: x258 :: x259 :: x260 :: c261 :: c262 :: c263 :: c264 :: c265 :: c266 :: c267 :: c268 :: c269 :: c270 :: c271 :: c272 :: c273 :: c274 :: c275 :: c276 :: c277 :: c278 :: c279 :: c280 :: c281 :: c282 :: c283 :: c284 :: c285 :: c286 :: c287 :: c288 :: c289 :: c290 :: c291 :: c292 :: c293 :: c294 :: c295 :: c296 :: c297 :: c298 :: []), []⟩ wx) (hvh : VB ≠ HB) :
    Code.wp Tryd.prog (lc 6) Q ⟨List.toArray (c0 :: c1 :: (.pointer (some ⟨w.heap.size, 0, none⟩) : Value) :: (.slice (some ⟨g, 0, none⟩) n cap : Value) :: c4 :: c5 :: (.slice (some ⟨KB, 0, none⟩) 64 64 : Value) :: (.int .u64 4294967296 : Value) :: (.slice (some ⟨HB, 0, none⟩) 8 8 : Value) :: (.int .i64 (P : Int) : Value) :: (.slice (some ⟨WB, 0, none⟩) 64 64 : Value) :: c11 :: c12 :: c13 :: c14 :: c15 :: (.slice (some ⟨VB, 0, none⟩) 8 vc : Value) :: (.int .i64 0 : Value) :: u18 :: u19 :: u20 :: u21 :: c22 :: c23 :: c24 :: c25 :: c26 :: c27 :: c28 :: c29 :: c30 :: c31 :: c32 :: c33 :: c34 :: c35 :: c36 :: c37 :: c38 :: c39 :: c40 :: c41 :: c42 :: c43 :: c44 :: c45 :: c46 :: c47 :: c48 :: c49 :: c50 :: c51 :: c52 :: c53 :: c54 :: c55 :: c56 :: c57 :: c58 :: c59 :: c60 :: c61 :: c62 :: c63 :: c64 :: c65 :: c66 :: c67 :: c68 :: c69 :: c70 :: c71 :: c72 :: c73 :: c74 :: c75 :: c76 :: c77 :: c78 :: c79 :: c80 :: c81 :: c82 :: c83 :: c84 :: c85 :: c86 :: c87 :: c88 :: c89 :: c90 :: c91 :: c92 :: c93 :: c94 :: c95 :: c96 :: c97 :: c98 :: c99 :: c100 :: c101 :: c102 :: c103 :: c104 :: c105 :: c106 :: c107 :: c108 :: c109 :: c110 :: c111 :: c112 :: c113 :: c114 :: c115 :: c116 :: c117 :: c118 :: c119 :: c120 :: c121 :: c122 :: c123 :: c124 :: c125 :: c126 :: c127 :: c128 :: c129 :: c130 :: c131 :: c132 :: c133 :: c134 :: c135 :: c136 :: c137 :: c138 :: u139 :: u140 :: u141 :: u142 :: u143 :: u144 :: u145 :: u146 :: u147 :: u148 :: u149 :: u150 :: u151 :: u152 :: u153 :: u154 :: u155 :: u156 :: u157 :: u158 :: u159 :: u160 :: u161 :: u162 :: u163 :: u164 :: u165 :: u166 :: u167 :: u168 :: u169 :: u170 :: u171 :: u172 :: u173 :: u174 :: u175 :: u176 :: u177 :: u178 :: u179 :: u180 :: u181 :: u182 :: u183 :: u184 :: u185 :: u186 :: u187 :: u188 :: u189 :: u190 :: u191 :: u192 :: u193 :: u194 :: u195 :: u196 :: u197 :: u198 :: u199 :: u200 :: u201 :: u202 :: u203 :: u204 :: u205 :: u206 :: u207 :: u208 :: u209 :: u210 :: u211 :: u212 :: u213 :: u214 :: u215 :: u216 :: u217 :: u218 :: u219 :: u220 :: u221 :: u222 :: u223 :: u224 :: u225 :: u226 :: u227 :: u228 :: u229 :: u230 :: u231 :: u232 :: u233 :: u234 :: u235 :: u236 :: u237 :: u238 :: u239 :: u240 :: u241 :: u242 :: u243 :: u244 :: u245 :: u246 :: u247 :: u248 :: u249 :: u250 :: u251 :: u252 :: u253 :: u254 :: u255 :: u256 :: u257 :: u258 :: u259 :: u260 :: c261 :: c262 :: c263 :: c264 :: c265 :: c266 :: c267 :: c268 :: c269 :: c270 :: c271 :: c272 :: c273 :: c274 :: c275 :: c276 :: c277 :: c278 :: c279 :: c280 :: c281 :: c282 :: c283 :: c284 :: c285 :: c286 :: c287 :: c288 :: c289 :: c290 :: c291 :: c292 :: c293 :: c294 :: c295 :: c296 :: c297 :: c298 :: []), []⟩ wr := by
  conv => arg 2; whnf
  have HE := hide hE
  have HV := hide hV
  have Hx := hide hexit
  clear hE hV hexit hP hn
  go_loopw [17, 16] (fun c v wr => ∃ i VB vc : Nat, c = .int .i64 (i : Int) ∧ v = .slice (some ⟨VB, 0, none⟩) 8 vc ∧ i ≤ 64 ∧ 8 ≤ vc ∧ vc ≤ 9223372036854775807 ∧ VB ≠ HB ∧ E2 w wr KB HB g nb cap PM s WB (sched (blk PM q)) ∧ V8 wr VB (rounds (sched (blk PM q)) s i)) (fun c _ _ => 64 - (intOf c).toNat)
  case atStart => exact ⟨0, VB, vc, rfl, rfl, Nat.zero_le _, hvc, hvm, hvh, HE.out, HV.out⟩
  case round =>
    clear HE HV hvh hvc hvm
    obtain ⟨i, VB, vc, rfl, rfl, hi, hvc, hvm, hvh, hE, hV⟩ := hrel
    have HE := hide hE
    have HV := hide hV
    clear hE hV
    by_cases hlt : i < 64
    · have d1 : decide ((i : Int) < 64) = true := by simp; omega
      have d1' : decide (i < 64) = true := by simp; omega
      have li : (i : Int) < 64 := by omega
      have hsl := sched_length (blk PM q)
      have bW := all32_getD (sched_all (all8_blk h8 q)) i
      have bK := all32_getD Ks_all i
      have XW := hide (row64 HE.out.row (i := i) (by rw [hsl]; exact hlt))
      have XK := hide (row64 HE.out.env.ks (i := i) (by rw [Ks_length]; exact hlt))
      have hro : rounds (sched (blk PM q)) s (i + 1) = (rounds (sched (blk PM q)) s i).step (Ks.getD i 0) ((sched (blk PM q)).getD i 0) := rfl
      have HRo := hide hro
      have tok := rounds_ok hs (sched (blk PM q)) i
      generalize rounds (sched (blk PM q)) s i = t at *
      generalize (sched (blk PM q)).getD i 0 = X at *
      generalize Ks.getD i 0 = K at *
      obtain ⟨ba, bb, bc, bd, be, bf, bg, bh⟩ := S8.bd tok
      obtain ⟨ta, tb, tc, td, te, tf, tg, th⟩ := t
      simp only at ba bb bc bd be bf bg bh
      clear hro hsl tok
      go_wp2_with fail
      have mixed : Tryd.prog.follows Departure.mixedOrders = true := by kernel_rfl
      have HR := hide (fun (x n k : Nat) (hx : x < 4294967296) (hn : 1 ≤ n) (hn' : n ≤ 31) => right_c x n (wr.drewN k) hx hn hn')
      refine wp_region_keep (fun u => ∃ k, u = wr.drewN k) mixed (by kernel_rfl) ⟨1, rfl⟩ ?_
      repeat (first
        | (refine keep_step (v := ?_) (by rfl) (fun u K hS hK => ?_) ?_
           rotate_left
           · obtain ⟨nn, rfl⟩ := hS
             have ye : (wr.drewN nn).cell? ⟨VB, 4, none⟩ = _ := HV.out.e
             have yf : (wr.drewN nn).cell? ⟨VB, 5, none⟩ = _ := HV.out.f
             have yg : (wr.drewN nn).cell? ⟨VB, 6, none⟩ = _ := HV.out.g
             (go_simp; first
               | (with_reducible exact hK _ ⟨nn, rfl⟩))
           simp only [Act.put, List.setIfInBounds_toArray, List.set_cons_zero, List.set_cons_succ]))
      refine keep_nil (fun w3 hS3 => ?_)
      obtain ⟨k3, rfl⟩ := hS3
      rw [chs_eq te tf tg be bf bg]
      have bC := chs_lt (x := te) bf bg
      obtain ⟨C, hC⟩ : ∃ C, C = chs te tf tg := ⟨_, rfl⟩
      rw [← hC] at bC ⊢
      have HC := hide hC
      clear hC
      go_wp2_with fail
      refine wp_region_keep (fun u => ∃ k, u = wr.drewN k) mixed (by kernel_rfl) ⟨k3 + 1, rfl⟩ ?_
      repeat (first
        | (refine keep_step (v := ?_) (by rfl) (fun u K hS hK => ?_) ?_
           rotate_left
           · obtain ⟨nn, rfl⟩ := hS
             have ya : (wr.drewN nn).cell? ⟨VB, 0, none⟩ = _ := HV.out.a
             have yb : (wr.drewN nn).cell? ⟨VB, 1, none⟩ = _ := HV.out.b
             have yc : (wr.drewN nn).cell? ⟨VB, 2, none⟩ = _ := HV.out.c
             (go_simp; first
               | (with_reducible exact hK _ ⟨nn, rfl⟩))
           simp only [Act.put, List.setIfInBounds_toArray, List.set_cons_zero, List.set_cons_succ]))
      refine keep_nil (fun w3 hS3 => ?_)
      obtain ⟨k4, rfl⟩ := hS3
      rw [maj_eq ta tb tc ba bb bc]
      have bM := maj_lt (x := ta) bb bc
      obtain ⟨M, hM⟩ : ∃ M, M = maj ta tb tc := ⟨_, rfl⟩
      rw [← hM] at bM ⊢
      have HM := hide hM
      clear hM
      go_wp2_with fail
      refine wp_region_keep (fun u => ∃ k, u = wr.drewN k) mixed (by kernel_rfl) ⟨k4 + 1, rfl⟩ ?_
      repeat (first
        | (refine keep_step (v := ?_) (by rfl) (fun u K hS hK => ?_) ?_
           rotate_left
           · obtain ⟨nn, rfl⟩ := hS
             have yh : (wr.drewN nn).cell? ⟨VB, 7, none⟩ = _ := HV.out.h
             have ye : (wr.drewN nn).cell? ⟨VB, 4, none⟩ = _ := HV.out.e
             have yK : (wr.drewN nn).cell? ⟨KB, i, none⟩ = _ := XK.out
             have yW : (wr.drewN nn).cell? ⟨WB, i, none⟩ = _ := XW.out
             (go_simp; first
               | (with_reducible exact hK _ ⟨nn, rfl⟩)
               | (go_at_call 129; (with_reducible refine Calls.mono (HR.out te 6 nn be (by omega) (by omega)) ?_); rintro e u2 ⟨rfl, kk, rfl⟩; exact hK _ ⟨nn + kk, drewN_add _ _ _⟩)
               | (go_at_call 129; (with_reducible refine Calls.mono (HR.out te 11 nn be (by omega) (by omega)) ?_); rintro e u2 ⟨rfl, kk, rfl⟩; exact hK _ ⟨nn + kk, drewN_add _ _ _⟩)
               | (go_at_call 129; (with_reducible refine Calls.mono (HR.out te 25 nn be (by omega) (by omega)) ?_); rintro e u2 ⟨rfl, kk, rfl⟩; exact hK _ ⟨nn + kk, drewN_add _ _ _⟩))
           simp only [Act.put, List.setIfInBounds_toArray, List.set_cons_zero, List.set_cons_succ]))
      refine keep_nil (fun w3 hS3 => ?_)
      obtain ⟨k5, rfl⟩ := hS3
      rw [one_eq th te C K X bh be bC bK bW]
      have b1 := bS1_lt be
      obtain ⟨O, hO⟩ : ∃ O, O = th + bS1 te + C + K + X := ⟨_, rfl⟩
      rw [← hO]
      have bO : O < 68719476736 := by omega
      have HO := hide hO
      clear hO
      go_wp2_with fail
      refine wp_region_keep (fun u => ∃ k, u = wr.drewN k) mixed (by kernel_rfl) ⟨k5 + 1, rfl⟩ ?_
      repeat (first
        | (refine keep_step (v := ?_) (by rfl) (fun u K hS hK => ?_) ?_
           rotate_left
           · obtain ⟨nn, rfl⟩ := hS
             have ya : (wr.drewN nn).cell? ⟨VB, 0, none⟩ = _ := HV.out.a
             (go_simp; first
               | (with_reducible exact hK _ ⟨nn, rfl⟩)
               | (go_at_call 129; (with_reducible refine Calls.mono (HR.out ta 2 nn ba (by omega) (by omega)) ?_); rintro e u2 ⟨rfl, kk, rfl⟩; exact hK _ ⟨nn + kk, drewN_add _ _ _⟩)
               | (go_at_call 129; (with_reducible refine Calls.mono (HR.out ta 13 nn ba (by omega) (by omega)) ?_); rintro e u2 ⟨rfl, kk, rfl⟩; exact hK _ ⟨nn + kk, drewN_add _ _ _⟩)
               | (go_at_call 129; (with_reducible refine Calls.mono (HR.out ta 22 nn ba (by omega) (by omega)) ?_); rintro e u2 ⟨rfl, kk, rfl⟩; exact hK _ ⟨nn + kk, drewN_add _ _ _⟩))
           simp only [Act.put, List.setIfInBounds_toArray, List.set_cons_zero, List.set_cons_succ]))
      refine keep_nil (fun w3 hS3 => ?_)
      obtain ⟨k6, rfl⟩ := hS3
      rw [two_eq ta M ba bM]
      have b0 := bS0_lt ba
      obtain ⟨T, hT⟩ : ∃ T, T = bS0 ta + M := ⟨_, rfl⟩
      rw [← hT]
      have bT : T < 68719476736 := by omega
      have HT := hide hT
      clear hT
      go_wp2_with fail
      refine wp_region_keep_tail 30 (fun u => ∃ k, u = wr.drewN k) mixed (by kernel_rfl) ⟨k6 + 1, rfl⟩ ?_
      simp only [List.take_succ_cons, List.take_zero]
      repeat (first
        | (refine keep_step (v := ?_) (by rfl) (fun u K hS hK => ?_) ?_
           rotate_left
           · obtain ⟨nn, rfl⟩ := hS
             have ya : (wr.drewN nn).cell? ⟨VB, 0, none⟩ = _ := HV.out.a
             have yb : (wr.drewN nn).cell? ⟨VB, 1, none⟩ = _ := HV.out.b
             have yc : (wr.drewN nn).cell? ⟨VB, 2, none⟩ = _ := HV.out.c
             have yd : (wr.drewN nn).cell? ⟨VB, 3, none⟩ = _ := HV.out.d
             have ye : (wr.drewN nn).cell? ⟨VB, 4, none⟩ = _ := HV.out.e
             have yf : (wr.drewN nn).cell? ⟨VB, 5, none⟩ = _ := HV.out.f
             have yg : (wr.drewN nn).cell? ⟨VB, 6, none⟩ = _ := HV.out.g
             (go_simp; first
               | (with_reducible exact hK _ ⟨nn, rfl⟩))
           simp only [Act.put, List.setIfInBounds_toArray, List.set_cons_zero, List.set_cons_succ]))
      refine keep_nil (fun w3 hS3 => ?_)
      obtain ⟨k7, rfl⟩ := hS3
      simp only [List.drop_succ_cons, List.drop_zero]
      rw [sum_eq2 O T bO bT, sum_eq2 td O (by omega) bO]
      have hnew := v8_new (wr.drewN k7) 206 ((O + T) % 4294967296) ta tb tc ((td + O) % 4294967296) te tf tg
      rw [← step_is ta tb tc td te tf tg th K X O T (by rw [HO.out, HC.out]) (by rw [HT.out, HM.out]), ← HRo.out] at hnew
      have HN := hide hnew
      have HE2 := hide ((HE.out.drewN k7).up (below_new (wr.drewN k7) (.cells #[.int .u64 (((O + T) % 4294967296 : Nat) : Int), .int .u64 (ta : Int), .int .u64 (tb : Int), .int .u64 (tc : Int), .int .u64 (((td + O) % 4294967296 : Nat) : Int), .int .u64 (te : Int), .int .u64 (tf : Int), .int .u64 (tg : Int)] 206)))
      have hne : (wr.drewN k7).heap.size ≠ HB := by have := HE.out.env.lts.2.1; show wr.heap.size ≠ HB; omega
      clear hnew HE HV HR XW XK HRo HO HT HC HM
      generalize (O + T) % 4294967296 = p1 at *
      generalize (td + O) % 4294967296 = p2 at *
      generalize wr.drewN k7 = w3 at *
      go_wp2_with (refine wpList_buildSlice_to rfl 237 8 _ rfl (some 260) rfl _ (by as_aux_lemma => kernel_rfl) _ _ (build_s8 _ _ _ _ _ _ _ _ _) ?_)
      refine of_hid ?_
      generalize w3.alloc _ = w4 at *
      generalize w3.heap.size = NB at *
      go_wp2
      go_roundw
      case rel => exact ⟨i + 1, NB, 8, by go_num, rfl, by omega, by omega, by omega, hne, HE2.out, HN.out⟩
      case measure => simp [intOf]; omega
    · have hj4 : i = 64 := by omega
      subst hj4
      have hx := Hx.out
      go_wp2_with fail
      exact hx _ _ _ _ _ _ _ _ _ _ _ _ _ _ _ _ _ _ _ _ _ _ _ _ _ _ _ _ _ _ _ _ _ _ _ _ _ _ _ _ _ _ _ _ _ _ _ _ _ _ _ _ _ _ _ _ _ _ _ _ _ _ _ _ _ _ _ _ _ _ _ _ _ _ _ _ _ _ _ _ _ _ _ _ _ _ _ _ _ _ _ _ _ _ _ _ _ _ _ _ _ _ _ _ _ _ _ _ _ _ _ _ _ _ _ _ _ _ _ _ _ _ _ _ _ _ _ VB vc wr hvc hvm HE.out HV.out hvh
end Go.Proofs.YtkinpbhbgeiflaaDoor.Sz7
