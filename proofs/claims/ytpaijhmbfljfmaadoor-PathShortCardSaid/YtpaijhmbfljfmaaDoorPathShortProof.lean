/-
  For every two texts the law PathShort of layer 9 returns true, where the listed variables hold what the program's text lays (the card ties them); no other condition.
-/
import Derived.Test.YtpaijhmbfljfmaaDoorRows
import Derived.Test.YtpaijhmbfljfmaaDoorPz
import Derived.Test.YtpaijhmbfljfmaaDoorCards
import Derived.Test.YtpaijhmbfljfmaaDoorTie
import Derived.Test.YtpaijhmbfljfmaaDoorPathShortWalk
import Derived.WalkKit
import Derived.ProofKit
import Derived.OpenShut
import Derived.ShutString
import Derived.ChangeOld
import Derived.ChangeMaps5
import Derived.Below
import Derived.LaidMore
import Derived.Stop.Joined
import Derived.SevenTiedAt
namespace Go.Proofs.YtpaijhmbfljfmaaDoor.pathShort
open Go.ChangeShapes Go.WideShapes Go.ChangeAt Go.RowKit
open Go.ChangeMaps (open_string shut_string)
set_option linter.unusedVariables false

theorem own : ownKnob Tryd.prog.godebug = none := by kernel_rfl
theorem laidOut : laidOutB Tryd.prog = true := by kernel_rfl
/-- A slice of integers that came in: nil, or a row of 'cap' cells. -/
def IsRow (k : IntKind) (w : World) (a : Option Addr) (len cap : Nat) (zs : List Int) : Prop :=
  (a = none ∧ len = 0 ∧ cap = 0 ∧ zs = []) ∨
  ∃ x, a = some x ∧ len ≤ cap ∧ cap ≤ maxLen ∧ zs.length = cap ∧ (∀ i, i < zs.length → w.cell? (x.add i) = some (.int k (zs.getD i 0))) ∧ ∀ n ∈ zs, (Lit.int k n).wf = true
theorem walk (s0 : ByteArray) (s1 : ByteArray) (w : World) (w0 : s0.size ≤ maxLen) (w1 : s1.size ≤ maxLen) (hlaid : Go.Proofs.YtpaijhmbfljfmaaDoor.Er.Et w) :
    Calls Tryd.prog 11 #[.string s0, .string s1] w fun e w' => e = .returned (.bool true) ∧ Below w.heap.size w w' := by
  unfold maxLen at w0 w1
  have hl : s0.data.toList.length ≤ 9223372036854775807 := by rw [← Lib.size_eq]; omega
  have hm : s1.data.toList.length ≤ 9223372036854775807 := by rw [← Lib.size_eq]; omega
  cases h : Go.Proofs.YtpaijhmbfljfmaaDoor.Pm.check s1.data.toList with
  | some p => exact PathShortW.out1 s0.data.toList s1.data.toList w hlaid hl hm p h
  | none =>
    cases h2 : Go.Proofs.YtpaijhmbfljfmaaDoor.Pm.check s0.data.toList with
    | some p => exact PathShortW.out2 s0.data.toList s1.data.toList w hlaid hl hm p h h2
    | none => exact PathShortW.walk s0.data.toList s1.data.toList w hlaid h h2

set_option maxRecDepth 100000 in
theorem lifted (os : Os) (started : os.Started) (H : Type) (enc : TypeId × Value → H) :
    ReturnsInHanded {} Tryd.checked os 11 .any (fun w args => (Rows.pathShortSpec.pre enc Tryd.prog Tryd.f11 [] false w args ∧ laidMetH Tryd.prog Go.Proofs.YtpaijhmbfljfmaaDoor.Pz.laid w) ∧ sizedMet enc Tryd.prog Tryd.f11 (OpenSpec.ofChange Rows.pathShortSpec) false w args)
      (Rows.pathShortSpec.post enc Tryd.prog Tryd.f11 false true false false) := by
  refine returnsInHanded_of_change_and (C := Tryd.checked) (X := fun w _ => laidMetH Tryd.prog Go.Proofs.YtpaijhmbfljfmaaDoor.Pz.laid w) (fun _ _ _ hh h => h.of_heap hh) own started (by kernel_rfl) Tryd.func11
    (ChangeSpec.witness_shaped (enc := enc) (C := Tryd.checked) (os := os) (X := fun w _ => laidMetH Tryd.prog Go.Proofs.YtpaijhmbfljfmaaDoor.Pz.laid w) false (Go.Proofs.YtpaijhmbfljfmaaDoor.Pz.start os) #[.string ⟨#[]⟩, .string ⟨#[]⟩] 8 (Go.Proofs.YtpaijhmbfljfmaaDoor.Pz.start_os os) (Go.Proofs.YtpaijhmbfljfmaaDoor.Pz.start_shaped os _) (by kernel_rfl) (by kernel_rfl) (by kernel_rfl) (Go.Proofs.YtpaijhmbfljfmaaDoor.Pz.door_met os _)) ?_
  intro W base args ds gs before hval0 hW _ _ hL _
  have hval : ∀ (j : Nat) t v, Tryd.f11.params[j]? = some t → args[j]? = some v → Value.okWide Tryd.prog W .any base t v := hval0
  have hW' := hW
  obtain ⟨p, q, hA0, hV, rfl, hfz, hnd⟩ := hW
  have hA : DataW.TrodAll enc Tryd.prog W 0 (fun _ => true) true Tryd.f11.params.toList args.toList ds p := hA0
  rw [Tryd.params11] at hA hval
  obtain ⟨v0, vs0, d0, ds0, p0, q0, hargs, rfl, rfl, h0, r0⟩ := trodAll_cons hA
  obtain ⟨v1, vs1, d1, ds1, p1, q1, rfl, rfl, rfl, h1, r1⟩ := trodAll_cons r0
  obtain ⟨rfl, rfl, rfl⟩ := trodAll_nil r1
  obtain rfl : args = #[v0, v1] := by cases args; simp_all
  obtain ⟨rfl, rfl⟩ := trodVars_none hV
  obtain ⟨s0, rfl, rfl, rfl, w0⟩ := open_string Tryd.underlying9 (hval 0 9 v0 rfl rfl) h0
  obtain ⟨s1, rfl, rfl, rfl, w1⟩ := open_string Tryd.underlying9 (hval 1 9 v1 rfl rfl) h1
  clear hA0 hval0
  refine (walk s0 s1 W w0 w1 (Go.Proofs.YtpaijhmbfljfmaaDoor.Pz.of_laid hL)).mono fun e W' ⟨he, bel⟩ => ?_
  subst he
  exact ⟨_, rfl, _, _, _, [], _, [], hW', trodAll_mk1 (shut_bool Tryd.underlying4 _), (trodAll_cons_mk (shut_string Tryd.underlying9 w0) (trodAll_cons_mk (shut_string Tryd.underlying9 w1) trodAll_mk0)), rfl, bel.frame _, fun h => by cases h⟩

theorem over : Rows.pathShortRow.holds Tryd.pinned (OpenSpec.ofChange Rows.pathShortSpec) :=
  OpenClaim.holds_of_wide 11 Tryd.f11 rfl rfl rfl rfl rfl rfl rfl ⟨rfl, rfl, rfl, rfl, rfl⟩ rfl rfl rfl rfl rfl (by kernel_rfl) Tryd.func11 (by kernel_rfl)
    (of_decide_eq_true (by kernel_rfl)) (by unfold Func.isWrapper; first | (rw [if_pos (by decide +kernel)]; kernel_rfl) | (rw [if_neg (by decide +kernel)]; exact ⟨rfl, rfl⟩))
    (fun os started H enc _ => lifted os started H enc)
/-- THE STATEMENT: the card, its listed variables tied to the program's text. -/
theorem proved : Rows.PathShortCardSaid :=
  Claim7.holds_tied_plain_at .later [] [.data, .handle, .pinned] true (true, "3df6c6d3144085352dafa9489c2036d01acbd80a73ed8a2d9d4dc652bdea38a1") true
    over (fun _ h => by cases h) (by kernel_rfl) (fun _ h => by cases h) pathShort_row_tie rfl ⟨rfl, rfl⟩ (by kernel_rfl) rfl
    (fun f fn hf hfn => by
      obtain rfl : f = 11 := Option.some.inj ((show Tryd.prog.funcNamed "wharfinger/wharfingerlaw09.PathShort" = some 11 by kernel_rfl).symm.trans hf) |>.symm
      obtain rfl : fn = Tryd.f11 := (Option.some.inj (Tryd.func11.symm.trans hfn)).symm
      exact ⟨by kernel_rfl, fun j t ht => by
        rw [Tryd.params11] at ht
        rcases j with _ | j
        · obtain rfl : t = 9 := by simpa using ht.symm
          kernel_rfl
        · rcases j with _ | j
          · obtain rfl : t = 9 := by simpa using ht.symm
            kernel_rfl
          · simp at ht
      ⟩)
    (by kernel_rfl)
#print axioms proved
end Go.Proofs.YtpaijhmbfljfmaaDoor.pathShort
