/- Tokens that were written are read back as they were; plainly. -/
import Derived.Test.YtkinpbhbgeiflaaDoorDw
import Derived.Test.YtkinpbhbgeiflaaDoorDu
import Derived.Test.YtkinpbhbgeiflaaDoorIm
namespace Go.Proofs.YtkinpbhbgeiflaaDoor.Dx
set_option linter.unusedVariables false
set_option linter.unusedSimpArgs false
open Go.Proofs.YtkinpbhbgeiflaaDoor.Cm Go.Proofs.YtkinpbhbgeiflaaDoor.Cr Go.Proofs.YtkinpbhbgeiflaaDoor.Cv Go.Proofs.YtkinpbhbgeiflaaDoor.Cw Go.Proofs.YtkinpbhbgeiflaaDoor.Im Go.Proofs.YtkinpbhbgeiflaaDoor.Da Go.Proofs.YtkinpbhbgeiflaaDoor.Du Go.Proofs.YtkinpbhbgeiflaaDoor.Dv Go.Proofs.YtkinpbhbgeiflaaDoor.Dw
theorem tok_back (A R : List Nat) (i : Nat) (t : Tok) (hA : A.length = i) (ht : Tok.can t) (hd : t.d.length ≤ 1099511627776) :
    rtE ⟨i, 0, 0⟩ (A ++ (encT t ++ R)) = 0 ∧ rtT ⟨i, 0, 0⟩ (A ++ (encT t ++ R)) = t ∧ rtS ⟨i, 0, 0⟩ (A ++ (encT t ++ R)) = ⟨i + (encT t).length, 0, 0⟩ := by
  by_cases hk : t.isK = true
  · obtain ⟨h1, h2, h3, h4, h5⟩ := can_K hk
    have e : encT t = numL t.c.toNat ++ numL t.f.toNat := by unfold encT; rw [if_pos hk]
    obtain ⟨n1, v1⟩ := num_back A [] (numL t.f.toNat ++ R) i t.c.toNat 0 hA (by omega)
    obtain ⟨n2, v2⟩ := num_back (A ++ numL t.c.toNat) [] R (i + (numL t.c.toNat).length) t.f.toNat 0 (by rw [List.length_append, hA]) (by omega)
    have e2 : A ++ (encT t ++ R) = A ++ (numL t.c.toNat ++ (numL t.f.toNat ++ R)) := by rw [e, List.append_assoc]
    have e3 : A ++ numL t.c.toNat ++ (numL t.f.toNat ++ R) = A ++ (numL t.c.toNat ++ (numL t.f.toNat ++ R)) := by rw [List.append_assoc]
    rw [e3] at n2 v2
    rw [e2]
    have hp : 0 < t.c.toNat := by omega
    refine ⟨?_, ?_, ?_⟩
    · unfold rtE
      rw [n1, n2, v1, if_neg (by simp), if_pos hp]
    · unfold rtT
      rw [n1, v1, v2, if_pos hp]
      obtain ⟨f, c, d⟩ := t
      simp only at h1 h3 h5 ⊢
      rw [List.length_eq_zero_iff.1 h5, Int.toNat_of_nonneg h3, Int.toNat_of_nonneg (by omega)]
    · unfold rtS
      rw [n1, n2, v1, if_pos hp, e, List.length_append]
      congr 1
      omega
  · have hb : t.isB = true := by rcases ht with h | h; exact absurd h hk; exact h
    obtain ⟨h1, h2, h3⟩ := can_B hb
    have e : encT t = numL 0 ++ (numL t.d.length ++ t.d) := by unfold encT; rw [if_neg hk, h2]; rfl
    obtain ⟨n1, v1⟩ := num_back A [] (numL t.d.length ++ (t.d ++ R)) i 0 0 hA (by omega)
    obtain ⟨n2, v2⟩ := num_back (A ++ numL 0) [] (t.d ++ R) (i + (numL 0).length) t.d.length 0 (by rw [List.length_append, hA]) hd
    have e2 : A ++ (encT t ++ R) = A ++ (numL 0 ++ (numL t.d.length ++ (t.d ++ R))) := by rw [e]; simp only [List.append_assoc]
    have e3 : A ++ numL 0 ++ (numL t.d.length ++ (t.d ++ R)) = A ++ (numL 0 ++ (numL t.d.length ++ (t.d ++ R))) := by rw [List.append_assoc]
    rw [e3] at n2 v2
    rw [e2]
    have hlen : (A ++ (numL 0 ++ (numL t.d.length ++ (t.d ++ R)))).length = i + (numL 0).length + (numL t.d.length).length + t.d.length + R.length := by
      simp only [List.length_append, hA]; omega
    refine ⟨?_, ?_, ?_⟩
    · unfold rtE
      rw [n1, n2, v1, v2, if_neg (by simp), if_neg (by omega), if_neg (by omega), if_neg (by simp only; omega)]
    · unfold rtT
      rw [n1, n2, v1, v2, if_neg (by omega)]
      have e4 : A ++ (numL 0 ++ (numL t.d.length ++ (t.d ++ R))) = (A ++ numL 0 ++ numL t.d.length) ++ (t.d ++ R) := by simp only [List.append_assoc]
      have e5 : i + (numL 0).length + (numL t.d.length).length = (A ++ numL 0 ++ numL t.d.length).length := by simp only [List.length_append, hA]
      simp only
      rw [e5, e4, List.drop_left, List.take_left]
      obtain ⟨f, c, d⟩ := t
      simp only at h1 h2 ⊢
      rw [h1, h2]
    · unfold rtS
      rw [n1, n2, v1, v2, if_neg (by omega), e]
      simp only [List.length_append]
      congr 1
      omega
theorem readN_back : ∀ (us : List Tok) (A : List Nat) (i : Nat) (ts : List Tok), A.length = i → (∀ t ∈ us, Tok.can t) → (∀ t ∈ us, t.d.length ≤ 1099511627776) → readN (A ++ encs us) us.length ⟨i, 0, 0⟩ ts = .ok (ts ++ us)
  | [], A, i, ts, hA, _, _ => by
    rw [List.length_nil, readN]
    have e : ((Rs.mk i 0 0).fin (A ++ encs []).length) = ⟨i, 0, 0⟩ := by
      unfold Rs.fin
      rw [if_neg]
      rintro ⟨_, h⟩
      simp [encs, hA] at h
    rw [e, if_neg (by simp), List.append_nil]
  | t :: us, A, i, ts, hA, hc, hd => by
    obtain ⟨h1, h2, h3⟩ := tok_back A (encs us) i t hA (hc t (by simp)) (hd t (by simp))
    rw [List.length_cons, readN]
    show (if rtE ⟨i, 0, 0⟩ (A ++ (encT t ++ encs us)) ≠ 0 then _ else readN (A ++ (encT t ++ encs us)) us.length (rtS ⟨i, 0, 0⟩ (A ++ (encT t ++ encs us))) (ts ++ [rtT ⟨i, 0, 0⟩ (A ++ (encT t ++ encs us))])) = _
    rw [h1, h2, h3, if_neg (by simp), ← List.append_assoc]
    rw [readN_back us (A ++ encT t) (i + (encT t).length) (ts ++ [t]) (by rw [List.length_append, hA]) (fun x hx => hc x (List.mem_cons_of_mem _ hx)) (fun x hx => hd x (List.mem_cons_of_mem _ hx)), List.append_assoc]
    rfl
/-- What is written is read as it was. -/
theorem readR_back (ts : List Tok) (hE : bytesE ts = 0) (hd : ∀ t ∈ ts, t.d.length ≤ 1099511627776) : readR (bytesL ts) = .ok ts := by
  have hl : ts.length ≤ 8192 := by
    by_cases h : 8192 < ts.length
    · unfold bytesE at hE; rw [if_pos h] at hE; cases hE
    · omega
  have hc : ∀ t ∈ ts, Tok.can t := by
    unfold bytesE at hE
    rw [if_neg (by omega)] at hE
    split at hE
    · assumption
    · cases hE
  obtain ⟨n1, v1⟩ := num_back [] [] (encs ts) 0 ts.length 0 rfl (by omega)
  rw [List.nil_append, Nat.zero_add] at n1
  rw [List.nil_append] at v1
  unfold readR bytesL
  rw [n1, v1, if_neg (by simp), if_neg (by omega), readN_back ts (numL ts.length) _ [] rfl hc hd]
  rfl
end Go.Proofs.YtkinpbhbgeiflaaDoor.Dx
