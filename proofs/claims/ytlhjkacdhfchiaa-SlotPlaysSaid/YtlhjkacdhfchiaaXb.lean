/- slot: who is where, as a list; what the calls answer by it. -/
import Derived.Test.YtlhjkacdhfchiaaXa
import Derived.Test.YtlhjkacdhfchiaaWu
import Derived.Test.YtlhjkacdhfchiaaRows
import Derived.WalkKit
import Derived.ProofKit
import Derived.BigQuiet
import Derived.Deep.QuietTactic
namespace Go.Proofs.Ytlhjkacdhfchiaa.Xb
set_option linter.unusedVariables false
set_option linter.unusedSimpArgs false
set_option maxRecDepth 100000
open Go.ChangeShapes Go.WideShapes Go.ChangeAt Go.RowKit
open Go.Maps (Keyed int_keyed keyOf_int_mk)
open Go.Proofs.Ytlhjkacdhfchiaa.Wu Go.Proofs.Ytlhjkacdhfchiaa.Km Go.Proofs.Ytlhjkacdhfchiaa.Xa
/-- Who, and the module. -/
abbrev Sl := Int × ByteArray
def ent (u : Sl) : Value × Value := (.int .i64 u.1, .agg #[.string u.2])
def isWho (who : Int) (u : Sl) : Bool := u.1 == who
def isIn (nm : ByteArray) (u : Sl) : Bool := u.2.toList == nm.toList
def cnt (nm : ByteArray) (L : List Sl) : Nat := L.countP (isIn nm)
def nameIs (nm : ByteArray) (p : Value × Value) : Bool := match p.2 with
  | .agg #[.string s] => s.toList == nm.toList
  | _ => false
theorem nameIs_ent (nm : ByteArray) (u : Sl) : nameIs nm (ent u) = isIn nm u := rfl
theorem cnt_map (nm : ByteArray) (L : List Sl) : (L.map ent).countP (nameIs nm) = cnt nm L := by
  unfold cnt
  rw [List.countP_map]
  rfl
/-- Where somebody is. -/
def inV (L : List Sl) (who : Int) : Value := match L.find? (isWho who) with
  | some u => .tuple #[.string u.2, .bool true]
  | none => .tuple #[.string ⟨#[]⟩, .bool false]
def placed (L : List Sl) (who : Int) : Bool := L.any (isWho who)
/-- Enter's number, and who is where then. -/
def enterF (L : List Sl) (who : Int) (nm : ByteArray) (slots : Int) : Int × List Sl :=
  if placed L who then (5, L) else if slots ≤ (cnt nm L : Int) then (150, L) else (0, L ++ [(who, nm)])
/-- Leave's. -/
def leaveF (L : List Sl) (who : Int) : Int × List Sl := if placed L who then (0, L.filter (fun u => !isWho who u)) else (4, L)
/-- The Slots in block P, their map in M. -/
structure SlW (w : World) (P M : Nat) (L : List Sl) : Prop where
  obj : w.heap[P]? = some (.cells #[.map (some M)] 70 (0, 0))
  map : MapL Try.prog 3 w M (L.map ent)
theorem SlW.same {w w' : World} {P M : Nat} {L : List Sl} (h : SlW w P M L) (hp : w'.heap[P]? = w.heap[P]?) (hm : w'.heap[M]? = w.heap[M]?) : SlW w' P M L := ⟨hp.trans h.obj, h.map.same hm⟩
theorem SlW.below {w w' : World} {P M : Nat} {L : List Sl} (h : SlW w P M L) (hb : Below w.heap.size w w') : SlW w' P M L := h.same (hb.block P (heap_lt h.obj)) (hb.block M h.map.lt)
theorem SlW.ne {w : World} {P M : Nat} {L : List Sl} (h : SlW w P M L) : P ≠ M := by
  intro e
  obtain ⟨es, clock, hb, _⟩ := h.map
  have := h.obj
  rw [e, hb] at this
  cases this
theorem law_int : Keyed Try.prog 3 := int_keyed Try.underlying3
theorem key_int {x : Int} (h : (Lit.int .i64 x).wf = true) : keyOf Try.prog 3 (.int .i64 x) = some (.int .i64 x) := keyOf_int_mk Try.underlying3 h
theorem zero_pl (w : World) : (zeroValue 72).run Try.prog w = .ok (.agg #[.string ByteArray.empty]) w := by kernel_rfl
theorem ent_key {L : List Sl} {p : Value × Value} (h : p ∈ L.map ent) : ∃ u ∈ L, p = ent u := by
  obtain ⟨u, h1, h2⟩ := List.mem_map.1 h
  exact ⟨u, h1, h2.symm⟩
theorem placed_false {L : List Sl} {who : Int} (h : ∀ p ∈ L.map ent, p.1 ≠ .int .i64 who) : placed L who = false := by
  unfold placed
  rw [List.any_eq_false]
  intro u hu he
  have e : u.1 = who := by simpa [isWho] using he
  exact h (ent u) (List.mem_map_of_mem hu) (by unfold ent; rw [e])
theorem placed_true {L : List Sl} {who : Int} {u : Sl} (h : u ∈ L) (e : u.1 = who) : placed L who = true := by
  unfold placed
  exact List.any_eq_true.2 ⟨u, h, by simp [isWho, e]⟩
theorem SlW.once {w : World} {P M : Nat} {L : List Sl} (h : SlW w P M L) : L.Pairwise (fun a b => a.1 ≠ b.1) := by
  have := List.pairwise_map.1 h.map.once
  exact this.imp fun {a b} hne e => hne (by unfold ent; rw [e])
theorem SlW.len {w : World} {P M : Nat} {L : List Sl} (h : SlW w P M L) : L.length ≤ maxLen := by
  have := h.map.max
  rwa [List.length_map] at this
theorem inV_false {L : List Sl} {who : Int} (h : placed L who = false) : inV L who = .tuple #[.string ⟨#[]⟩, .bool false] := by
  have : L.find? (isWho who) = none := by
    rw [List.find?_eq_none]
    intro u hu
    have := List.any_eq_false.1 h u hu
    simpa using this
  unfold inV
  rw [this]
theorem inV_true {L : List Sl} {who : Int} {s : ByteArray} (ho : L.Pairwise (fun a b => a.1 ≠ b.1)) (h : (who, s) ∈ L) : inV L who = .tuple #[.string s, .bool true] := by
  have : L.find? (isWho who) = some (who, s) := by
    induction L with
    | nil => cases h
    | cons a L ih =>
      obtain ⟨h1, h2⟩ := List.pairwise_cons.1 ho
      rcases List.mem_cons.1 h with rfl | h
      · exact List.find?_cons_of_pos (by simp [isWho])
      · rw [List.find?_cons_of_neg]
        · exact ih h2 h
        · have := h1 _ h
          simpa [isWho] using this
  unfold inV
  rw [this]
theorem placed_find {L : List Sl} {who : Int} (h : placed L who = true) : ∃ s, (who, s) ∈ L := by
  obtain ⟨u, hu, he⟩ := List.any_eq_true.1 h
  have e : u.1 = who := by simpa [isWho] using he
  exact ⟨u.2, by rw [← e]; exact hu⟩
theorem Put_end {L : List Sl} {who : Int} {nm : ByteArray} {l' : List (Value × Value)} (h : Put (L.map ent) (.int .i64 who) (.agg #[.string nm]) l') (hp : placed L who = false) : l' = (L ++ [(who, nm)]).map ent := by
  rcases h with ⟨_, rfl⟩ | ⟨l1, v, l2, h1, _⟩
  · simp [ent]
  · exfalso
    have hm : (Value.int .i64 who, v) ∈ L.map ent := by rw [h1]; simp
    obtain ⟨u, hu, he⟩ := ent_key hm
    have e : u.1 = who := by
      unfold ent at he
      injection he with he _
      injection he with _ he
      exact he.symm
    rw [placed_true hu e] at hp
    cases hp
theorem Del_list {L : List Sl} {who : Int} {l' : List (Value × Value)} (ho : L.Pairwise (fun a b => a.1 ≠ b.1)) (h : Del (L.map ent) (.int .i64 who) l') : l' = (L.filter (fun u => !isWho who u)).map ent := by
  rcases h with ⟨h1, rfl⟩ | ⟨l1, v, l2, h1, rfl⟩
  · have := List.any_eq_false.1 (placed_false h1)
    rw [List.filter_eq_self.2 (fun u hu => by have := this u hu; simpa using this)]
  · obtain ⟨A, B, rfl, rfl, hB⟩ := List.map_eq_append_iff.1 h1
    obtain ⟨u, C, rfl, hu, rfl⟩ := List.map_eq_cons_iff.1 hB
    have e : u.1 = who := by
      unfold ent at hu
      injection hu with he _
      injection he with _ he
    obtain ⟨k1, k2, k3⟩ := List.pairwise_append.1 ho
    obtain ⟨k4, k5⟩ := List.pairwise_cons.1 k2
    have f1 : A.filter (fun u => !isWho who u) = A := List.filter_eq_self.2 (fun x hx => by
      have := k3 x hx u List.mem_cons_self
      rw [e] at this
      simpa [isWho] using this)
    have f2 : C.filter (fun u => !isWho who u) = C := List.filter_eq_self.2 (fun x hx => by
      have := k4 x hx
      rw [e] at this
      simp [isWho, Ne.symm this])
    rw [List.filter_append, List.filter_cons_of_neg (by simp [isWho, e]), f1, f2, List.map_append]
theorem grown_below {w w' : World} (h : Below w.heap.size w w') (r : Option Nat) : w.grownBy w' r := ⟨h.os, h.tape, h.output, h.size, fun k hk _ => h.block k hk⟩
end Go.Proofs.Ytlhjkacdhfchiaa.Xb
