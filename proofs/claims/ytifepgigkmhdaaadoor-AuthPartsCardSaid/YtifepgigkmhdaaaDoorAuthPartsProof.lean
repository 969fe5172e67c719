/-
  For every two pairs of texts and every pair of nonces the law AuthParts of layer 14 returns true and leaves its arguments as they were, where the listed tables hold what the program's text lays (the card ties them); no other condition.
-/
import Derived.Test.YtifepgigkmhdaaaDoorRows
import Derived.Test.YtifepgigkmhdaaaDoorPf
import Derived.Test.YtifepgigkmhdaaaDoorCards
import Derived.Test.YtifepgigkmhdaaaDoorTie
import Derived.Test.YtifepgigkmhdaaaDoorAuthPartsWalk
import Derived.Test.YtifepgigkmhdaaaDoorPk
import Derived.WalkKit
import Derived.ProofKit
import Derived.OpenShut
import Derived.ShutString
import Derived.ChangeOld
import Derived.ChangeMaps5
import Derived.Below
import Derived.LaidMore
import Derived.Stop.Joined
import Derived.SevenTiedAt
namespace Go.Proofs.YtifepgigkmhdaaaDoor.authParts
open Go.ChangeShapes Go.WideShapes Go.ChangeAt Go.RowKit
open Go.ChangeMaps (open_string shut_string)
open Go.Proofs.YtifepgigkmhdaaaDoor.Wu
set_option linter.unusedVariables false

theorem own : ownKnob Tryd.prog.godebug = none := by kernel_rfl
theorem laidOut : laidOutB Tryd.prog = true := by kernel_rfl
/-- A slice of integers that came in: nil, or a row of 'cap' cells. -/
def IsRow (k : IntKind) (w : World) (a : Option Addr) (len cap : Nat) (zs : List Int) : Prop :=
  (a = none ∧ len = 0 ∧ cap = 0 ∧ zs = []) ∨
  ∃ x, a = some x ∧ len ≤ cap ∧ cap ≤ maxLen ∧ zs.length = cap ∧ (∀ i, i < zs.length → w.cell? (x.add i) = some (.int k (zs.getD i 0))) ∧ ∀ n ∈ zs, (Lit.int k n).wf = true
theorem walk (x0 y0 : ByteArray) (x1 y1 : ByteArray) (X2 Y2 : List Nat) (w : World) (l0 : x0.size ≤ maxLen) (e0 : y0.size ≤ maxLen) (l1 : x1.size ≤ maxLen) (e1 : y1.size ≤ maxLen) (l2 : (X2.length = 16 ∧ Go.Proofs.YtifepgigkmhdaaaDoor.Sm.All8 X2)) (e2 : (Y2.length = 16 ∧ Go.Proofs.YtifepgigkmhdaaaDoor.Sm.All8 Y2)) (hlaid : Go.Proofs.YtifepgigkmhdaaaDoor.Sn.Fst w ∧ Go.Proofs.YtifepgigkmhdaaaDoor.Sxa.Tbl w) :
    Calls Tryd.prog 13 #[.agg #[.string x0, .string y0], .agg #[.string x1, .string y1], .agg (Go.Proofs.YtifepgigkmhdaaaDoor.Ba.u8s (X2 ++ Y2))] w fun e w' => e = .returned (.bool true) ∧ Below w.heap.size w w' := by
  obtain ⟨hF, hT⟩ := hlaid
  exact AuthPartsW.walk x0 y0 x1 y1 X2 Y2 w l2 e2 hT hF

set_option maxRecDepth 100000 in
theorem lifted (os : Os) (started : os.Started) (H : Type) (enc : TypeId × Value → H) :
    ReturnsInHanded {} Tryd.checked os 13 .any (fun w args => (Rows.authPartsSpec.pre enc Tryd.prog Tryd.f13 [] false w args ∧ laidMetH Tryd.prog Go.Proofs.YtifepgigkmhdaaaDoor.Sl.laid w) ∧ sizedMet enc Tryd.prog Tryd.f13 (OpenSpec.ofChange Rows.authPartsSpec) false w args)
      (Rows.authPartsSpec.post enc Tryd.prog Tryd.f13 false true false false) := by
  refine returnsInHanded_of_change_and (C := Tryd.checked) (X := fun w _ => laidMetH Tryd.prog Go.Proofs.YtifepgigkmhdaaaDoor.Sl.laid w) (fun _ _ _ hh h => h.of_heap hh) own started (by kernel_rfl) Tryd.func13
    (ChangeSpec.witness_shaped (enc := enc) (C := Tryd.checked) (os := os) (X := fun w _ => laidMetH Tryd.prog Go.Proofs.YtifepgigkmhdaaaDoor.Sl.laid w) false (World.doorLaid Tryd.prog 400 os) #[.agg #[.string ⟨#[]⟩, .string ⟨#[]⟩], .agg #[.string ⟨#[]⟩, .string ⟨#[]⟩], .agg #[.int .u8 0, .int .u8 0, .int .u8 0, .int .u8 0, .int .u8 0, .int .u8 0, .int .u8 0, .int .u8 0, .int .u8 0, .int .u8 0, .int .u8 0, .int .u8 0, .int .u8 0, .int .u8 0, .int .u8 0, .int .u8 0, .int .u8 0, .int .u8 0, .int .u8 0, .int .u8 0, .int .u8 0, .int .u8 0, .int .u8 0, .int .u8 0, .int .u8 0, .int .u8 0, .int .u8 0, .int .u8 0, .int .u8 0, .int .u8 0, .int .u8 0, .int .u8 0]] 8 rfl (World.shaped_of_RefB (by kernel_rfl) (by kernel_rfl)) (by kernel_rfl) (by kernel_rfl) (by kernel_rfl) (Go.Proofs.YtifepgigkmhdaaaDoor.Sl.door_met os _)) ?_
  intro W base args ds gs before hval0 hW _ _ hL _
  have hval : ∀ (j : Nat) t v, Tryd.f13.params[j]? = some t → args[j]? = some v → Value.okWide Tryd.prog W .any base t v := hval0
  have hW' := hW
  obtain ⟨p, q, hA0, hV, rfl, hfz, hnd⟩ := hW
  have hA : DataW.TrodAll enc Tryd.prog W 0 (fun _ => true) true Tryd.f13.params.toList args.toList ds p := hA0
  rw [Tryd.params13] at hA hval
  obtain ⟨v0, vs0, d0, ds0, p0, q0, hargs, rfl, rfl, h0, r0⟩ := trodAll_cons hA
  obtain ⟨v1, vs1, d1, ds1, p1, q1, rfl, rfl, rfl, h1, r1⟩ := trodAll_cons r0
  obtain ⟨v2, vs2, d2, ds2, p2, q2, rfl, rfl, rfl, h2, r2⟩ := trodAll_cons r1
  obtain ⟨rfl, rfl, rfl⟩ := trodAll_nil r2
  obtain rfl : args = #[v0, v1, v2] := by cases args; simp_all
  obtain ⟨rfl, rfl⟩ := trodVars_none hV
  have k0 := h0
  have lt0 : ∀ x ∈ p0, x.block < W.heap.size := by obtain ⟨m, hm⟩ := k0; exact DataW.trod_lt m _ _ _ hm
  obtain ⟨x0, y0, rfl, l0, e0⟩ := Go.Proofs.YtifepgigkmhdaaaDoor.Ug.open_strs2 Tryd.underlying117 Tryd.underlying9 (by kernel_rfl) (by kernel_rfl) (hval 0 117 v0 rfl rfl) h0
  have k1 := h1
  have lt1 : ∀ x ∈ p1, x.block < W.heap.size := by obtain ⟨m, hm⟩ := k1; exact DataW.trod_lt m _ _ _ hm
  obtain ⟨x1, y1, rfl, l1, e1⟩ := Go.Proofs.YtifepgigkmhdaaaDoor.Ug.open_strs2 Tryd.underlying117 Tryd.underlying9 (by kernel_rfl) (by kernel_rfl) (hval 1 117 v1 rfl rfl) h1
  have k2 := h2
  have lt2 : ∀ x ∈ p2, x.block < W.heap.size := by obtain ⟨m, hm⟩ := k2; exact DataW.trod_lt m _ _ _ hm
  obtain ⟨X2, Y2, rfl, l2, e2⟩ := Go.Proofs.YtifepgigkmhdaaaDoor.Ug.open_arrs Tryd.underlying118 Tryd.underlying98 Tryd.underlying5 (by kernel_rfl) (by kernel_rfl) (by kernel_rfl) (hval 2 118 v2 rfl rfl) h2
  clear hA0 hval0
  refine (walk x0 y0 x1 y1 X2 Y2 W l0 e0 l1 e1 l2 e2 (Go.Proofs.YtifepgigkmhdaaaDoor.Sl.of_laid hL)).mono fun e W' ⟨he, bel⟩ => ?_
  subst he
  exact ⟨_, rfl, _, _, _, [], _, [], hW', trodAll_mk1 (shut_bool Tryd.underlying4 _), (trodAll_cons_mk (Below.trod laidOut (by kernel_rfl) (of_decide_eq_true (by kernel_rfl)) k0 bel lt0) (trodAll_cons_mk (Below.trod laidOut (by kernel_rfl) (of_decide_eq_true (by kernel_rfl)) k1 bel lt1) (trodAll_cons_mk (Below.trod laidOut (by kernel_rfl) (of_decide_eq_true (by kernel_rfl)) k2 bel lt2) trodAll_mk0))), rfl, bel.frame _, fun h => by cases h⟩

theorem over : Rows.authPartsRow.holds Tryd.pinned (OpenSpec.ofChange Rows.authPartsSpec) :=
  OpenClaim.holds_of_wide 13 Tryd.f13 rfl rfl rfl rfl rfl rfl rfl ⟨rfl, rfl, rfl, rfl, rfl⟩ rfl rfl rfl rfl rfl (by kernel_rfl) Tryd.func13 (by kernel_rfl)
    (of_decide_eq_true (by kernel_rfl)) (by unfold Func.isWrapper; first | (rw [if_pos (by decide +kernel)]; kernel_rfl) | (rw [if_neg (by decide +kernel)]; exact ⟨rfl, rfl⟩))
    (fun os started H enc _ => lifted os started H enc)
/-- THE STATEMENT: the card, its listed variables tied to the program's text. -/
theorem proved : Rows.AuthPartsCardSaid :=
  Claim7.holds_tied_plain_at .later [] [.data, .data] true (true, "e678b29a9a2b6fd80dd281d03a50d3cef108d03a40b1a6962833219d57f95cbd") true
    over (fun _ h => by cases h) (by kernel_rfl) (fun _ h => by cases h) authParts_row_tie rfl ⟨rfl, rfl⟩ (by kernel_rfl) rfl
    (fun f fn hf hfn => by
      obtain rfl : f = 13 := Option.some.inj ((show Tryd.prog.funcNamed "wharfinger/wharfingerlaw14.AuthParts" = some 13 by kernel_rfl).symm.trans hf) |>.symm
      obtain rfl : fn = Tryd.f13 := (Option.some.inj (Tryd.func13.symm.trans hfn)).symm
      exact ⟨by kernel_rfl, fun j t ht => by
        rw [Tryd.params13] at ht
        rcases j with _ | j
        · obtain rfl : t = 117 := by simpa using ht.symm
          kernel_rfl
        · rcases j with _ | j
          · obtain rfl : t = 117 := by simpa using ht.symm
            kernel_rfl
          · rcases j with _ | j
            · obtain rfl : t = 118 := by simpa using ht.symm
              kernel_rfl
            · simp at ht
      ⟩)
    (by kernel_rfl)
#print axioms proved
end Go.Proofs.YtifepgigkmhdaaaDoor.authParts
