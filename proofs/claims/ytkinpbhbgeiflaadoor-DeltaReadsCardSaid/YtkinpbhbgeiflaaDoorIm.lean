/- Texts that are read back; append of zeros, walked. -/
import Derived.Test.YtkinpbhbgeiflaaDoorIl
import Derived.Test.YtkinpbhbgeiflaaDoorCz
namespace Go.Proofs.YtkinpbhbgeiflaaDoor.Im
set_option linter.unusedVariables false
set_option linter.unusedSimpArgs false
set_option maxRecDepth 100000
open Go.ChangeShapes Go.WideShapes Go.ChangeAt Go.RowKit
open Go.Proofs.YtkinpbhbgeiflaaDoor.Wu Go.Proofs.YtkinpbhbgeiflaaDoor.Sm Go.Proofs.YtkinpbhbgeiflaaDoor.Sh Go.Proofs.YtkinpbhbgeiflaaDoor.Ba Go.Proofs.YtkinpbhbgeiflaaDoor.Bp Go.Proofs.YtkinpbhbgeiflaaDoor.Bq Go.Proofs.YtkinpbhbgeiflaaDoor.Bz Go.Proofs.YtkinpbhbgeiflaaDoor.Cm Go.Proofs.YtkinpbhbgeiflaaDoor.Cn Go.Proofs.YtkinpbhbgeiflaaDoor.Cr Go.Proofs.YtkinpbhbgeiflaaDoor.Cv Go.Proofs.YtkinpbhbgeiflaaDoor.Cw Go.Proofs.YtkinpbhbgeiflaaDoor.Cz
theorem numP_numL (R : List Nat) : ∀ (n i acc : Nat), (0 < i → 0 < n) → i + (numL n).length ≤ 6 → acc + n * 2 ^ (7 * i) ≤ 1099511627776 → numP (numL n ++ R) i acc = .ok (acc + n * 2 ^ (7 * i)) (i + (numL n).length) := by
  intro n
  induction n using Nat.strongRecOn with
  | _ n ih =>
    intro i acc hi hl hb
    by_cases h : n < 128
    · rw [numL_small n h] at hl ⊢
      simp only [List.length_cons, List.length_nil] at hl
      simp only [List.cons_append, List.nil_append, numP]
      have hm : n % 128 = n := Nat.mod_eq_of_lt h
      rw [hm, if_neg (by omega), if_neg (by omega), if_neg (by omega)]
      simp
    · rw [numL_big n h] at hl ⊢
      simp only [List.length_cons] at hl
      simp only [List.cons_append, numP]
      have hp := numL_pos (n / 128)
      have hm : (n % 128 + 128) % 128 = n % 128 := by omega
      have e : n * 2 ^ (7 * i) = n % 128 * 2 ^ (7 * i) + n / 128 * 2 ^ (7 * (i + 1)) := by
        have h1 : 2 ^ (7 * (i + 1)) = 128 * 2 ^ (7 * i) := by rw [show 7 * (i + 1) = 7 * i + 7 by omega, Nat.pow_add]; omega
        rw [h1]
        generalize 2 ^ (7 * i) = q
        have h2 := Nat.div_add_mod n 128
        calc n * q = (128 * (n / 128) + n % 128) * q := by rw [h2]
          _ = n % 128 * q + n / 128 * (128 * q) := by rw [Nat.add_mul, Nat.mul_comm 128 (n / 128), Nat.mul_assoc]; omega
      rw [if_neg (by omega), if_pos (by omega), hm, ih (n / 128) (by omega) (i + 1) _ (by omega) (by omega) (by rw [Nat.add_assoc, ← e]; exact hb), Nat.add_assoc, ← e]
      simp only [List.length_cons]
      congr 1
      omega
theorem wpList_append_zeros {w : World} {ops : Array Oper} {rest : List Oper} {o : Oper} {a : Act} {Q : Exit → Act → World → Prop} (hgd : o.guard = none) (s x : Operand)
    (ho : o.op = .call { callee := .builtin .append, args := #[s, x], argTypes := #[22, 3] }) (g n cap : Nat) (L : List Nat) (m : Nat)
    (hs : a.eval s = .slice (some ⟨g, 0, none⟩) n cap) (hx : a.eval x = .int .i64 (m : Int)) (hd : Dst w g n cap L) (hbig : n + m ≤ 70368744177664)
    (h : ∀ g' cap' w', Hid (Dst w' g' (n + m) cap' (L ++ List.replicate m 0)) → Hid (w.grownBy w' (some g)) → (g' = g ∨ g' = w.heap.size) → Hid (wpList Tryd.prog ops Q rest (a.put o.dst (.slice (some ⟨g', 0, none⟩) (n + m) cap')) w')) : wpList Tryd.prog ops Q (o :: rest) a w := by
  obtain ⟨g', cap', w', hrun, h1, h2, h3⟩ := append_zeros w o.type g n cap L m hd hbig
  refine wpList_plain hgd fun K hK => ?_
  unfold Oper.wp
  simp [execOp, ho, resolve, invoke, builtin, hs, hx, hrun, Result.andThen]
  exact hK _ _ (h g' cap' w' h1 h2 (h3.imp (·.1) (·.1)))
theorem num_back (A X R : List Nat) (i n : Nat) (fa : Int) (hA : A.length = i) (hn : n ≤ 1099511627776) :
    (Rs.mk i fa 0).num (A ++ (numL n ++ R)) = ⟨i + (numL n).length, fa, 0⟩ ∧ (Rs.mk i fa 0).numV (A ++ (numL n ++ R)) = n := by
  have e : (A ++ (numL n ++ R)).drop i = numL n ++ R := by rw [← hA, List.drop_left]
  have hp := numP_numL R n 0 0 (by omega) (by have := numL_six n hn; omega) (by simpa using hn)
  simp only [Nat.mul_zero, Nat.pow_zero, Nat.mul_one, Nat.zero_add] at hp
  unfold Rs.num Rs.numV
  simp only [e, hp, if_true]
  exact ⟨trivial, trivial⟩
theorem text_back (A X R : List Nat) (i n : Nat) (fa : Int) (hA : A.length = i) (hX : X.length = n) (hn : n ≤ 4096) :
    (Rs.mk i fa 0).text (A ++ (numL n ++ (X ++ R))) = ⟨i + (numL n).length + n, fa, 0⟩ ∧ (Rs.mk i fa 0).textV (A ++ (numL n ++ (X ++ R))) = X := by
  obtain ⟨h1, h2⟩ := num_back A X (X ++ R) i n fa hA (by omega)
  have h3 : (Rs.mk i fa 0).pre (A ++ (numL n ++ (X ++ R))) = ⟨i + (numL n).length, fa, 0⟩ := by
    unfold Rs.pre Rs.mid
    rw [h1, h2, if_neg (by omega)]
    unfold Rs.has
    rw [if_neg]
    simp only [List.length_append]
    omega
  unfold Rs.text Rs.textV
  rw [h3, h1, h2]
  simp only [if_true]
  refine ⟨trivial, ?_⟩
  rw [← List.append_assoc, ← hA, ← List.length_append, List.drop_left, ← hX, List.take_left]
theorem text_long (A R : List Nat) (i n : Nat) (fa : Int) (hA : A.length = i) (hn : 4096 < n) (hm : n ≤ 1099511627776) :
    (Rs.mk i fa 0).text (A ++ (numL n ++ R)) = ⟨i, (i : Int), 2⟩ ∧ (Rs.mk i fa 0).textV (A ++ (numL n ++ R)) = [] := by
  obtain ⟨h1, h2⟩ := num_back A [] R i n fa hA hm
  have h3 : (Rs.mk i fa 0).pre (A ++ (numL n ++ R)) = ⟨i + (numL n).length, (i : Int), 2⟩ := by
    unfold Rs.pre Rs.mid
    rw [h1, h2, if_pos (by omega)]
    unfold Rs.has
    rw [if_neg]
    simp
  unfold Rs.text Rs.textV
  rw [h3]
  simp
end Go.Proofs.YtkinpbhbgeiflaaDoor.Im
