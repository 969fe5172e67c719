/- The table as it grows. -/
import Derived.Test.YtheambpddpfcfaaDoorKk
import Derived.Test.YtheambpddpfcfaaDoorRk
namespace Go.Proofs.YtheambpddpfcfaaDoor.Kl
set_option linter.unusedVariables false
set_option linter.unusedSimpArgs false
set_option maxRecDepth 100000
open Go.ChangeShapes Go.WideShapes Go.ChangeAt Go.RowKit
open Go.Maps (Keyed int_keyed keyOf_int_mk)
open Go.Proofs.YtheambpddpfcfaaDoor.Wu Go.Proofs.YtheambpddpfcfaaDoor.Sm Go.Proofs.YtheambpddpfcfaaDoor.Sh Go.Proofs.YtheambpddpfcfaaDoor.Ba Go.Proofs.YtheambpddpfcfaaDoor.Bp Go.Proofs.YtheambpddpfcfaaDoor.Ka Go.Proofs.YtheambpddpfcfaaDoor.Kb Go.Proofs.YtheambpddpfcfaaDoor.Kc Go.Proofs.YtheambpddpfcfaaDoor.Kd Go.Proofs.YtheambpddpfcfaaDoor.Km Go.Proofs.YtheambpddpfcfaaDoor.Rb1 Go.Proofs.YtheambpddpfcfaaDoor.Kg Go.Proofs.YtheambpddpfcfaaDoor.Kk Go.Proofs.YtheambpddpfcfaaDoor.Rk
/-- The table when a slice has been appended to, and isn't stored yet. -/
structure Tab2 (w : World) (M N : Nat) (l : List (Value × Value)) (G : Nat → List Plc) (x : Nat) (v : Value) (ps : List Plc) : Prop where
  map : MapL Tryd.prog 50 w M l
  low : M < N
  entry : ∀ p ∈ l, p.1 ≠ .int .u32 (x : Int) → ∃ y : Nat, y < 4294967296 ∧ p.1 = .int .u32 (y : Int) ∧ OwnP w N p.2 (G y)
  absent : ∀ y : Nat, (∀ p ∈ l, p.1 ≠ .int .u32 (y : Int)) → G y = []
  apart : ∀ p ∈ l, ∀ q ∈ l, p.1 ≠ q.1 → p.2.ownBlock = none ∨ p.2.ownBlock ≠ q.2.ownBlock
  new : OwnP w N v ps
  alone : ∀ p ∈ l, p.1 ≠ .int .u32 (x : Int) → p.2.ownBlock = none ∨ p.2.ownBlock ≠ v.ownBlock
theorem Tab2.below {w w' : World} {M N : Nat} {l : List (Value × Value)} {G : Nat → List Plc} {x : Nat} {v : Value} {ps : List Plc} (h : Tab2 w M N l G x v ps) (hb : Below w.heap.size w w') : Tab2 w' M N l G x v ps :=
  ⟨h.map.same (hb.block M h.map.lt), h.low, fun p hp hne => by obtain ⟨y, h1, h2, h3⟩ := h.entry p hp hne; exact ⟨y, h1, h2, h3.below hb⟩, h.absent, h.apart, h.new.below hb, h.alone⟩
theorem Tab.append {w w' : World} {M N : Nat} {l : List (Value × Value)} {G : Nat → List Plc} (h : Tab w M N l G) {x : Nat} {v v' : Value} {ps : List Plc} (hv : OwnP w N v (G x)) (hal : ∀ p ∈ l, p.1 ≠ .int .u32 (x : Int) → p.2.ownBlock = none ∨ p.2.ownBlock ≠ v.ownBlock)
    (hg : w.grownBy w' v.ownBlock) (hn : OwnP w' N v' ps) (ho : v'.ownBlock = v.ownBlock ∨ v'.ownBlock = some w.heap.size) : Tab2 w' M N l G x v' ps := by
  refine ⟨h.map.same (hg.block M h.map.lt (fun e => ?_)), h.low, fun p hp hne => ?_, h.absent, h.apart, hn, fun p hp hne => ?_⟩
  · have := (hv.own M e.symm).1
    have := h.low
    omega
  · obtain ⟨y, h1, h2, h3⟩ := h.entry p hp
    exact ⟨y, h1, h2, h3.kept hg (hal p hp hne)⟩
  · rcases ho with e | e
    · rw [e]; exact hal p hp hne
    · obtain ⟨y, h1, h2, h3⟩ := h.entry p hp
      cases hb : p.2.ownBlock with
      | none => exact .inl rfl
      | some g =>
        have := (h3.own g hb).2
        right; rw [e]; intro e'; injection e' with e'; omega
theorem Tab2.store {w : World} {M N : Nat} {l : List (Value × Value)} {G : Nat → List Plc} {x : Nat} {v : Value} {ps : List Plc} (h : Tab2 w M N l G x v ps) (hx : x < 4294967296) (hroom : l.length < maxLen) :
    ∃ l' w', (Instr.mapUpdate 115 (.map (some M)) (.int .u32 (x : Int)) v).run Tryd.prog w = .ok () w' ∧ Tab w' M N l' (fun y => if y = x then ps else G y) ∧ w.grownBy w' (some M) ∧ l'.length ≤ l.length + 1 := by
  obtain ⟨l', w', hr, hm, hp, hg⟩ := h.map.store (t := 115) law_u32 Tryd.underlying115 hroom v (key_u32 hx)
  have hmem := hp.mem h.map.once
  have hM : ∀ g, N ≤ g → some g ≠ some M := fun g hN e => by injection e with e; have := h.low; omega
  have keep : ∀ u qs, OwnP w N u qs → OwnP w' N u qs := fun u qs hu => hu.kept hg (by
    cases hb : u.ownBlock with
    | none => exact .inl rfl
    | some g => exact .inr (hM g (hu.own g hb).1))
  refine ⟨l', w', hr, ⟨hm, h.low, fun p hp' => ?_, fun y hy => ?_, fun p hp' q hq' hne => ?_⟩, hg, hp.length⟩
  · rcases (hmem p).1 hp' with rfl | ⟨h1, h2⟩
    · exact ⟨x, hx, rfl, by simp only [if_true]; exact keep _ _ h.new⟩
    · obtain ⟨y, h3, h4, h5⟩ := h.entry p h1 h2
      refine ⟨y, h3, h4, ?_⟩
      rw [if_neg (fun e => h2 (by rw [h4, e]))]
      exact keep _ _ h5
  · have hyx : y ≠ x := fun e => hy _ ((hmem _).2 (.inl rfl)) (by rw [e])
    rw [if_neg hyx]
    refine h.absent y (fun p hp' e => ?_)
    exact hy p ((hmem p).2 (.inr ⟨hp', fun e2 => hyx (by rw [e] at e2; simp only [Value.int.injEq, true_and] at e2; omega)⟩)) e
  · rcases (hmem p).1 hp' with rfl | ⟨h1, h2⟩
    · rcases (hmem q).1 hq' with rfl | ⟨h3, h4⟩
      · exact absurd rfl hne
      · cases hb : v.ownBlock with
        | none => exact .inl rfl
        | some g =>
          right
          rcases h.alone q h3 h4 with e | e
          · show some g ≠ q.2.ownBlock
            rw [e]; intro e'; cases e'
          · rw [hb] at e; exact fun e' => e e'.symm
    · rcases (hmem q).1 hq' with rfl | ⟨h3, h4⟩
      · exact h.alone p h1 h2
      · exact h.apart p h1 q h3 hne
theorem kUpon_look {P : Program} {a : Act} {o : Oper} {u : World} {K : Value → World → Prop} (t : TypeId) (m x : Operand) (c : Bool) (hop : o.op = Op.lookup t m x c) (v : Value) (mv kv : Value) (hm : a.eval m = mv) (hk : a.eval x = kv) (hr : (Instr.lookup t mv kv c).run P u = .ok v u) (h : K v u) : kUpon P K ((execOp a.eval o).run P u) := by
  subst hm hk
  have e : (execOp a.eval o).run P u = .ok (.value v) u := by
    simp [execOp, hop, hr, Result.andThen]
  rw [e]
  exact h
theorem kUpon_put {P : Program} {a : Act} {o : Oper} {u u' : World} {K : Value → World → Prop} (t : TypeId) (m x y : Operand) (hop : o.op = Op.mapUpdate t m x y) (mv kv v : Value) (hm : a.eval m = mv) (hk : a.eval x = kv) (hv : a.eval y = v) (hr : (Instr.mapUpdate t mv kv v).run P u = .ok () u') (h : K undef u') : kUpon P K ((execOp a.eval o).run P u) := by
  subst hm hk hv
  have e : (execOp a.eval o).run P u = .ok .skip u' := by
    simp [execOp, hop, hr, Result.andThen]
  rw [e]
  exact h
/-- The places of the first i blocks. -/
def plcs (s l : Nat) (bs : List Blk) (i : Nat) : List Plc := (List.range i).map fun j => ⟨j, min s (l - j * s), bs.getD j ⟨0, []⟩⟩
def grp (s l : Nat) (bs : List Blk) (i x : Nat) : List Plc := (plcs s l bs i).filter fun p => p.b.w = x
theorem grp_zero (s l : Nat) (bs : List Blk) : grp s l bs 0 = fun _ => [] := by funext x; rfl
theorem grp_step (s l : Nat) (bs : List Blk) (i : Nat) (b : Blk) (hb : bs[i]? = some b) : grp s l bs (i + 1) = fun y => if y = b.w then grp s l bs i b.w ++ [⟨i, min s (l - i * s), b⟩] else grp s l bs i y := by
  funext y
  have hd : bs.getD i ⟨0, []⟩ = b := by simp [List.getD, hb]
  unfold grp plcs
  rw [List.range_succ, List.map_append, List.filter_append]
  simp only [List.map_cons, List.map_nil, hd]
  by_cases h : y = b.w
  · rw [if_pos h, h]; simp
  · rw [if_neg h]
    have : ¬ b.w = y := fun e => h e.symm
    simp [this]
theorem grp_length (s l : Nat) (bs : List Blk) (i x : Nat) : (grp s l bs i x).length ≤ i := by
  refine Nat.le_trans (List.length_filter_le _ _) ?_
  simp [plcs]
end Go.Proofs.YtheambpddpfcfaaDoor.Kl
