/-
  For every module, every nonce and every number the law AuthOwn of layer 14 returns true and leaves its arguments as they were, where the listed tables hold what the program's text lays (the card ties them); no other condition.
-/
import Derived.Test.YtifepgigkmhdaaaDoorRows
import Derived.Test.YtifepgigkmhdaaaDoorPf
import Derived.Test.YtifepgigkmhdaaaDoorCards
import Derived.Test.YtifepgigkmhdaaaDoorTie
import Derived.Test.YtifepgigkmhdaaaDoorAuthOwnWalk
import Derived.Test.YtifepgigkmhdaaaDoorPk
import Derived.WalkKit
import Derived.ProofKit
import Derived.OpenShut
import Derived.ShutString
import Derived.ChangeOld
import Derived.ChangeMaps5
import Derived.Below
import Derived.LaidMore
import Derived.Stop.Joined
import Derived.SevenTiedAt
namespace Go.Proofs.YtifepgigkmhdaaaDoor.authOwn
open Go.ChangeShapes Go.WideShapes Go.ChangeAt Go.RowKit
open Go.ChangeMaps (open_string shut_string)
open Go.Proofs.YtifepgigkmhdaaaDoor.Wu
set_option linter.unusedVariables false

theorem own : ownKnob Tryd.prog.godebug = none := by kernel_rfl
theorem laidOut : laidOutB Tryd.prog = true := by kernel_rfl
/-- A slice of integers that came in: nil, or a row of 'cap' cells. -/
def IsRow (k : IntKind) (w : World) (a : Option Addr) (len cap : Nat) (zs : List Int) : Prop :=
  (a = none ∧ len = 0 ∧ cap = 0 ∧ zs = []) ∨
  ∃ x, a = some x ∧ len ≤ cap ∧ cap ≤ maxLen ∧ zs.length = cap ∧ (∀ i, i < zs.length → w.cell? (x.add i) = some (.int k (zs.getD i 0))) ∧ ∀ n ∈ zs, (Lit.int k n).wf = true
theorem walk (n0 r0 : ByteArray) (b0 : Bool) (s0 q0 : Int) (a0 : Option Addr) (m0 c0 : Nat) (us0 : List (ByteArray × ByteArray)) (X1 : List Nat) (a2 : Int) (w : World) (l0 : Go.Proofs.YtifepgigkmhdaaaDoor.Ad.IsUs w a0 m0 c0 us0) (e0 : n0.size ≤ maxLen) (l1 : X1.length = 16) (e1 : Go.Proofs.YtifepgigkmhdaaaDoor.Sm.All8 X1) (w2 : (Lit.int .i64 a2).wf = true) (hlaid : Go.Proofs.YtifepgigkmhdaaaDoor.Sn.Fst w ∧ Go.Proofs.YtifepgigkmhdaaaDoor.Sxa.Tbl w) :
    Calls Tryd.prog 11 #[Go.Proofs.YtifepgigkmhdaaaDoor.Ad.modV n0 r0 b0 s0 q0 a0 m0 c0, .agg (Go.Proofs.YtifepgigkmhdaaaDoor.Ba.u8s X1), .int .i64 a2] w fun e w' => e = .returned (.bool true) ∧ Below w.heap.size w w' := by
  obtain ⟨hF, hT⟩ := hlaid
  exact AuthOwnW.walk_any n0 r0 b0 s0 q0 a0 m0 c0 us0 X1 a2 w l0 l1 e1 hT hF

set_option maxRecDepth 100000 in
theorem lifted (os : Os) (started : os.Started) (H : Type) (enc : TypeId × Value → H) :
    ReturnsInHanded {} Tryd.checked os 11 .any (fun w args => (Rows.authOwnSpec.pre enc Tryd.prog Tryd.f11 [] false w args ∧ laidMetH Tryd.prog Go.Proofs.YtifepgigkmhdaaaDoor.Sl.laid w) ∧ sizedMet enc Tryd.prog Tryd.f11 (OpenSpec.ofChange Rows.authOwnSpec) false w args)
      (Rows.authOwnSpec.post enc Tryd.prog Tryd.f11 false true false false) := by
  refine returnsInHanded_of_change_and (C := Tryd.checked) (X := fun w _ => laidMetH Tryd.prog Go.Proofs.YtifepgigkmhdaaaDoor.Sl.laid w) (fun _ _ _ hh h => h.of_heap hh) own started (by kernel_rfl) Tryd.func11
    (ChangeSpec.witness_shaped (enc := enc) (C := Tryd.checked) (os := os) (X := fun w _ => laidMetH Tryd.prog Go.Proofs.YtifepgigkmhdaaaDoor.Sl.laid w) false (World.doorLaid Tryd.prog 400 os) #[.agg #[.string ⟨#[]⟩, .string ⟨#[]⟩, .bool false, .int .i64 0, .int .i64 0, .slice none 0 0], .agg #[.int .u8 0, .int .u8 0, .int .u8 0, .int .u8 0, .int .u8 0, .int .u8 0, .int .u8 0, .int .u8 0, .int .u8 0, .int .u8 0, .int .u8 0, .int .u8 0, .int .u8 0, .int .u8 0, .int .u8 0, .int .u8 0], .int .i64 0] 8 rfl (World.shaped_of_RefB (by kernel_rfl) (by kernel_rfl)) (by kernel_rfl) (by kernel_rfl) (by kernel_rfl) (Go.Proofs.YtifepgigkmhdaaaDoor.Sl.door_met os _)) ?_
  intro W base args ds gs before hval0 hW _ _ hL _
  have hval : ∀ (j : Nat) t v, Tryd.f11.params[j]? = some t → args[j]? = some v → Value.okWide Tryd.prog W .any base t v := hval0
  have hW' := hW
  obtain ⟨p, q, hA0, hV, rfl, hfz, hnd⟩ := hW
  have hA : DataW.TrodAll enc Tryd.prog W 0 (fun _ => true) true Tryd.f11.params.toList args.toList ds p := hA0
  rw [Tryd.params11] at hA hval
  obtain ⟨v0, vs0, d0, ds0, p0, q0, hargs, rfl, rfl, h0, r0⟩ := trodAll_cons hA
  obtain ⟨v1, vs1, d1, ds1, p1, q1, rfl, rfl, rfl, h1, r1⟩ := trodAll_cons r0
  obtain ⟨v2, vs2, d2, ds2, p2, q2, rfl, rfl, rfl, h2, r2⟩ := trodAll_cons r1
  obtain ⟨rfl, rfl, rfl⟩ := trodAll_nil r2
  obtain rfl : args = #[v0, v1, v2] := by cases args; simp_all
  obtain ⟨rfl, rfl⟩ := trodVars_none hV
  have k0 := h0
  have lt0 : ∀ x ∈ p0, x.block < W.heap.size := by obtain ⟨m, hm⟩ := k0; exact DataW.trod_lt m _ _ _ hm
  obtain ⟨n0, rr0, b0, s0, q0, a0, m0, c0, us0, rfl, l0, e0⟩ := Go.Proofs.YtifepgigkmhdaaaDoor.Ug.open_module (hval 0 104 v0 rfl rfl) h0
  have k1 := h1
  have lt1 : ∀ x ∈ p1, x.block < W.heap.size := by obtain ⟨m, hm⟩ := k1; exact DataW.trod_lt m _ _ _ hm
  obtain ⟨X1, rfl, l1, e1⟩ := Go.Proofs.YtifepgigkmhdaaaDoor.Ug.open_arr Tryd.underlying98 Tryd.underlying5 (by kernel_rfl) (by kernel_rfl) (hval 1 98 v1 rfl rfl) h1
  obtain ⟨a2, rfl, rfl, rfl, w2⟩ := open_int Tryd.underlying3 (hval 2 3 v2 rfl rfl) h2
  clear hA0 hval0
  refine (walk n0 rr0 b0 s0 q0 a0 m0 c0 us0 X1 a2 W l0 e0 l1 e1 w2 (Go.Proofs.YtifepgigkmhdaaaDoor.Sl.of_laid hL)).mono fun e W' ⟨he, bel⟩ => ?_
  subst he
  exact ⟨_, rfl, _, _, _, [], _, [], hW', trodAll_mk1 (shut_bool Tryd.underlying4 _), (trodAll_cons_mk (Below.trod laidOut (by kernel_rfl) (of_decide_eq_true (by kernel_rfl)) k0 bel lt0) (trodAll_cons_mk (Below.trod laidOut (by kernel_rfl) (of_decide_eq_true (by kernel_rfl)) k1 bel lt1) (trodAll_cons_mk (shut_int Tryd.underlying3 w2) trodAll_mk0))), rfl, bel.frame _, fun h => by cases h⟩

theorem over : Rows.authOwnRow.holds Tryd.pinned (OpenSpec.ofChange Rows.authOwnSpec) :=
  OpenClaim.holds_of_wide 11 Tryd.f11 rfl rfl rfl rfl rfl rfl rfl ⟨rfl, rfl, rfl, rfl, rfl⟩ rfl rfl rfl rfl rfl (by kernel_rfl) Tryd.func11 (by kernel_rfl)
    (of_decide_eq_true (by kernel_rfl)) (by unfold Func.isWrapper; first | (rw [if_pos (by decide +kernel)]; kernel_rfl) | (rw [if_neg (by decide +kernel)]; exact ⟨rfl, rfl⟩))
    (fun os started H enc _ => lifted os started H enc)
/-- THE STATEMENT: the card, its listed variables tied to the program's text. -/
theorem proved : Rows.AuthOwnCardSaid :=
  Claim7.holds_tied_plain_at .later [] [.data, .data] true (true, "e678b29a9a2b6fd80dd281d03a50d3cef108d03a40b1a6962833219d57f95cbd") true
    over (fun _ h => by cases h) (by kernel_rfl) (fun _ h => by cases h) authOwn_row_tie rfl ⟨rfl, rfl⟩ (by kernel_rfl) rfl
    (fun f fn hf hfn => by
      obtain rfl : f = 11 := Option.some.inj ((show Tryd.prog.funcNamed "wharfinger/wharfingerlaw14.AuthOwn" = some 11 by kernel_rfl).symm.trans hf) |>.symm
      obtain rfl : fn = Tryd.f11 := (Option.some.inj (Tryd.func11.symm.trans hfn)).symm
      exact ⟨by kernel_rfl, fun j t ht => by
        rw [Tryd.params11] at ht
        rcases j with _ | j
        · obtain rfl : t = 104 := by simpa using ht.symm
          kernel_rfl
        · rcases j with _ | j
          · obtain rfl : t = 98 := by simpa using ht.symm
            kernel_rfl
          · rcases j with _ | j
            · obtain rfl : t = 3 := by simpa using ht.symm
              kernel_rfl
            · simp at ht
      ⟩)
    (by kernel_rfl)
#print axioms proved
end Go.Proofs.YtifepgigkmhdaaaDoor.authOwn
