/- path's Beneath, Clash and Join, and the reference's. -/
import Derived.Test.YtlhjkacdhfchiaaDoorPe
namespace Go.Proofs.YtlhjkacdhfchiaaDoor.Pg
set_option linter.unusedVariables false
set_option linter.unusedSimpArgs false
set_option maxRecDepth 100000
open Go.ChangeShapes Go.WideShapes Go.RowKit
open Go.Proofs.YtlhjkacdhfchiaaDoor.Wu Go.Proofs.YtlhjkacdhfchiaaDoor.Pm Go.Proofs.YtlhjkacdhfchiaaDoor.Pc Go.Proofs.YtlhjkacdhfchiaaDoor.Pl Go.Proofs.YtlhjkacdhfchiaaDoor.Pd Go.Proofs.YtlhjkacdhfchiaaDoor.Pe
/-- Does a text begin with another one and a slash? -/
def pre (f s : List UInt8) : Bool := (f ++ [47]).isPrefixOf s
theorem pre_eq (f s : List UInt8) : pre f s = (Lib.hasPrefix s f && Lib.hasPrefix (s.drop f.length) [47]) := by
  unfold pre Lib.hasPrefix
  rw [Bool.eq_iff_iff, Bool.and_eq_true, List.isPrefixOf_iff_prefix, List.isPrefixOf_iff_prefix, List.isPrefixOf_iff_prefix]
  constructor
  · rintro ⟨t, rfl⟩
    refine ⟨⟨[47] ++ t, by simp⟩, ⟨t, by simp⟩⟩
  · rintro ⟨⟨t, rfl⟩, ⟨u, hu⟩⟩
    refine ⟨u, ?_⟩
    rw [List.drop_left] at hu
    rw [List.append_assoc, hu]
theorem trim_of {s f : List UInt8} (h : Lib.hasPrefix s f = true) : Lib.trimPrefix s f = s.drop f.length := by unfold Lib.trimPrefix; rw [if_pos h]
theorem cut_c (s p : List UInt8) (w : World) : Calls Tryd.prog 109 #[.string (bs s), .string (bs p)] w fun e w' => e = .returned (.tuple #[.string (bs (Lib.trimPrefix s p)), .bool (Lib.hasPrefix s p)]) ∧ w' = w := by
  have h := Any.strings_CutPrefix lay103 (bs s) (bs p) w
  rw [bs_data, bs_data] at h
  exact h
/-- What stands behind. -/
def BehP (w : World) (f s : List UInt8) (e : Ending) (w' : World) : Prop := ∃ x, e = .returned (.tuple #[.string x, .bool (pre f s)]) ∧ (pre f s = true → x = bs (s.drop (f.length + 1))) ∧ w' = w
set_option maxHeartbeats 800000 in
theorem behind_c (f s : List UInt8) (w : World) : Calls Tryd.prog 81 #[.string (bs f), .string (bs s)] w (BehP w f s) := by
  have H1 := hide (cut_c s f w)
  have H2 : Hid (∀ t, Calls Tryd.prog 109 #[.string (bs t), .string ⟨#[47]⟩] w fun e w' => e = .returned (.tuple #[.string (bs (Lib.trimPrefix t [47])), .bool (Lib.hasPrefix t [47])]) ∧ w' = w) := hide (fun t => cut_c t [47] w)
  have HP := hide (pre_eq f s)
  cases h1 : Lib.hasPrefix s f with
  | false =>
    rw [h1] at H1 HP
    go_enter Tryd.func81, Tryd.ntmps81
    go_wp2_with fail
    refine H1.out.mono ?_
    rintro e w' ⟨rfl, rfl⟩
    go_wp2
    go_ret2
    refine ⟨⟨#[]⟩, ?_, ?_, rfl⟩
    · rw [HP.out]; rfl
    · rw [HP.out]; intro h; exact absurd h (by simp)
  | true =>
    rw [trim_of h1] at H1
    rw [h1] at H1 HP
    have HD : Hid (Lib.hasPrefix (s.drop f.length) [47] = true → Lib.trimPrefix (s.drop f.length) [47] = s.drop (f.length + 1)) := hide (fun h => by rw [trim_of h, List.drop_drop]; rfl)
    have HT := hide (H2.out (s.drop f.length))
    clear H2 h1
    generalize Lib.trimPrefix (s.drop f.length) [47] = T at *
    generalize Lib.hasPrefix (s.drop f.length) [47] = q at *
    generalize bs (s.drop f.length) = X at *
    go_enter Tryd.func81, Tryd.ntmps81
    go_wp2_with fail
    refine H1.out.mono ?_
    rintro e w' ⟨rfl, rfl⟩
    go_wp2_with fail
    refine HT.out.mono ?_
    rintro e w' ⟨rfl, rfl⟩
    go_wp2
    go_ret2
    refine ⟨bs T, ?_, ?_, rfl⟩
    · rw [HP.out]; rfl
    · rw [HP.out]; intro h; rw [HD.out (by simpa using h)]
/-- What a text is beneath a root. -/
def ben (r s : List UInt8) : List UInt8 × Bool := if r = [] then (s, decide (s ≠ [])) else if pre r s = true then (s.drop (r.length + 1), decide (s.drop (r.length + 1) ≠ [])) else (s, false)
def benV (r s : List UInt8) : Value := .tuple #[.string (bs (ben r s).1), .bool (ben r s).2]
theorem ne_nil (s : List UInt8) : (!(bs s).toList.isEmpty) = decide (s ≠ []) := by
  rw [bs_toList]; cases s <;> rfl
theorem eq_nil (s : List UInt8) : ((bs s).toList == []) = decide (s = []) := by
  rw [bs_toList]; cases s <;> rfl
set_option maxHeartbeats 800000 in
theorem clash_c (a b : List UInt8) (w : World) : Calls Tryd.prog 49 #[.string (bs a), .string (bs b)] w fun e w' => e = .returned (.bool (pre a b || pre b a)) ∧ w' = w := by
  have H1 := hide (behind_c a b w)
  have H2 := hide (behind_c b a w)
  go_enter Tryd.func49, Tryd.ntmps49
  go_wp2_with fail
  refine H1.out.mono ?_
  rintro e w' ⟨x, rfl, -, rfl⟩
  go_wp2_with fail
  refine H2.out.mono ?_
  rintro e w' ⟨y, rfl, -, rfl⟩
  cases hp : pre a b <;> cases hq : pre b a
  all_goals
    go_wp2
    go_ret
    refine ⟨?_, rfl⟩
    rw [hp, hq]
    rfl
/-- The reference's. -/
theorem begins_c (s p : List UInt8) (w : World) (hs : s.length ≤ 9223372036854775807) (hp : p.length ≤ 9223372036854775807) : Calls Tryd.prog 105 #[.string (bs s), .string (bs p)] w fun e w' => e = .returned (.bool (p.isPrefixOf s)) ∧ w' = w := by
  have z1 := bs_size s
  have z2 := bs_size p
  by_cases h : p.length ≤ s.length
  · have HE := hide (bs_extract s 0 p.length)
    have HT : Hid (((bs ((s.drop 0).take (p.length - 0))).toList == (bs p).toList) = p.isPrefixOf s) := hide (by
      rw [bs_toList, bs_toList, Bool.eq_iff_iff, beq_iff_eq, List.isPrefixOf_iff_prefix, List.prefix_iff_eq_take, List.drop_zero, Nat.sub_zero]
      exact eq_comm)
    go_enter Tryd.func105, Tryd.ntmps105
    go_wp2
    go_ret
    refine ⟨?_, rfl⟩
    rw [← HT.out, ← HE.out]
    rfl
  · have HT : Hid (p.isPrefixOf s = false) := hide (by
      rw [Bool.eq_false_iff, ne_eq, List.isPrefixOf_iff_prefix]
      intro hp
      exact h hp.length_le)
    go_enter Tryd.func105, Tryd.ntmps105
    go_wp2
    go_ret
    refine ⟨?_, rfl⟩
    rw [HT.out]
    rfl
theorem bs_append (a b : List UInt8) : bs a ++ bs b = bs (a ++ b) := by
  unfold bs
  exact ByteArray.mk_append_mk a b
theorem add_bs (a b : List UInt8) (h : a.length + b.length ≤ 9223372036854775807) (u : World) : Sem.run Tryd.prog (Op.stringOp .add (bs a) (bs b)) u = .ok (.string (bs (a ++ b))) u := by
  have h2 := run_string_add_sum (P := Tryd.prog) u (bs a) (bs b) (by rw [bs_size, bs_size]; exact h)
  rw [h2, bs_append]
theorem add_slash (a : List UInt8) (h : a.length ≤ 9000000000000000000) (u : World) : Sem.run Tryd.prog (Op.stringOp .add (bs a) ⟨#[47]⟩) u = .ok (.string (bs (a ++ [47]))) u := add_bs a [47] (by simp; omega) u
set_option maxHeartbeats 800000 in
theorem refClash_c (a b : List UInt8) (w : World) (ha : a.length ≤ 200) (hb : b.length ≤ 200) : Calls Tryd.prog 73 #[.string (bs a), .string (bs b)] w fun e w' => e = .returned (.bool (pre a b || pre b a)) ∧ w' = w := by
  have H1 := hide (begins_c a (b ++ [47]) w (by omega) (by simp; omega))
  have H2 := hide (begins_c b (a ++ [47]) w (by omega) (by simp; omega))
  have hA := add_slash a (by omega)
  have hB := add_slash b (by omega)
  cases hp : pre a b <;> cases hq : pre b a
  all_goals
    have hp' := hp
    have hq' := hq
    unfold pre at hp' hq'
    rw [hq'] at H1
    rw [hp'] at H2
    clear hp' hq'
    go_enter Tryd.func73, Tryd.ntmps73
    go_wp2_with fail
    refine H1.out.mono ?_
    rintro e w' ⟨rfl, rfl⟩
    go_wp2_with fail
    first
      | (refine H2.out.mono ?_
         rintro e w' ⟨rfl, rfl⟩
         go_wp2
         go_ret
         exact ⟨rfl, rfl⟩)
      | (go_ret
         exact ⟨rfl, rfl⟩)
/-- A path beneath a root. -/
def joined (r s : List UInt8) : List UInt8 := if r = [] then s else r ++ [47] ++ s
def JoinV (w : World) (r s : List UInt8) (e : Ending) (w' : World) : Prop :=
  (check (joined r s) = none ∧ e = .returned (.tuple #[.string (bs (joined r s)), .nilIface]) ∨ ∃ p b, check (joined r s) = some p ∧ e = .returned (.tuple #[.string ⟨#[]⟩, .iface 96 (.pointer (some ⟨b, 0, none⟩))]) ∧ w'.heap[b]? = some (.cells #[.int .i64 ((p : Nat) : Int), .int .i64 90] 30 (0, 0))) ∧ Below w.heap.size w w'
end Go.Proofs.YtlhjkacdhfchiaaDoor.Pg
