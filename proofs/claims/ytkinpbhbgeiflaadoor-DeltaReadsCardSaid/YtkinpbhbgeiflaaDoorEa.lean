/- Tokens that were read are written as they were; plainly. -/
import Derived.Test.YtkinpbhbgeiflaaDoorDx
namespace Go.Proofs.YtkinpbhbgeiflaaDoor.Ea
set_option linter.unusedVariables false
set_option linter.unusedSimpArgs false
open Go.Proofs.YtkinpbhbgeiflaaDoor.Wu Go.Proofs.YtkinpbhbgeiflaaDoor.Sm Go.Proofs.YtkinpbhbgeiflaaDoor.Sh Go.Proofs.YtkinpbhbgeiflaaDoor.Ba Go.Proofs.YtkinpbhbgeiflaaDoor.Bp Go.Proofs.YtkinpbhbgeiflaaDoor.Bq Go.Proofs.YtkinpbhbgeiflaaDoor.Rk Go.Proofs.YtkinpbhbgeiflaaDoor.Rw Go.Proofs.YtkinpbhbgeiflaaDoor.Er Go.Proofs.YtkinpbhbgeiflaaDoor.Eu Go.Proofs.YtkinpbhbgeiflaaDoor.De Go.Proofs.YtkinpbhbgeiflaaDoor.Cm Go.Proofs.YtkinpbhbgeiflaaDoor.Cr Go.Proofs.YtkinpbhbgeiflaaDoor.Cv Go.Proofs.YtkinpbhbgeiflaaDoor.Cw Go.Proofs.YtkinpbhbgeiflaaDoor.Cz Go.Proofs.YtkinpbhbgeiflaaDoor.Da Go.Proofs.YtkinpbhbgeiflaaDoor.Du Go.Proofs.YtkinpbhbgeiflaaDoor.Dv Go.Proofs.YtkinpbhbgeiflaaDoor.Dw
theorem numP_conv : ∀ (X : List Nat) (i n a k : Nat), All8 X → numP X i n = .ok a k → ∃ v, a = n + v * 2 ^ (7 * i) ∧ X.take (k - i) = numL v ∧ (0 < i → 0 < v)
  | [], i, n, a, k, h8, h => by simp [numP] at h
  | x :: X, i, n, a, k, h8, h => by
    have hx : x < 256 := h8 x (by simp)
    have hX : All8 X := fun z hz => h8 z (List.mem_cons_of_mem _ hz)
    unfold numP at h
    split at h
    · cases h
    · rename_i h0
      split at h
      · rename_i h1
        have hk := numP_pos X _ _ _ _ h
        obtain ⟨v, ha, ht, hv⟩ := numP_conv X _ _ _ _ hX h
        have hv0 := hv (by omega)
        refine ⟨x % 128 + 128 * v, ?_, ?_, fun _ => by omega⟩
        · rw [ha, show 7 * (i + 1) = 7 * i + 7 by omega, Nat.pow_add, Nat.add_mul]
          have : v * (2 ^ (7 * i) * 2 ^ 7) = 128 * v * 2 ^ (7 * i) := by
            rw [Nat.mul_comm (2 ^ (7 * i)), ← Nat.mul_assoc, Nat.mul_comm v]
          omega
        · rw [numL_big _ (by omega), show k - i = (k - (i + 1)) + 1 by omega, List.take_succ_cons, ht]
          congr 1
          · omega
          · congr 1; omega
      · rename_i h1
        split at h
        · cases h
        · injection h with e1 e2
          refine ⟨x, ?_, ?_, fun h2 => ?_⟩
          · rw [← e1, Nat.mod_eq_of_lt (by omega)]
          · rw [numL_small x (by omega), ← e2, show i + 1 - i = 1 by omega]
            rfl
          · have : ¬ (0 < i ∧ x = 0) := fun h => h0 (.inr h)
            omega
theorem num_conv {L : List Nat} (h8 : All8 L) (p : Nat) (h : ((Rs.mk p 0 0).num L).fe = 0) : ∃ q, (Rs.mk p 0 0).num L = ⟨q, 0, 0⟩ ∧ L.drop p = numL ((Rs.mk p 0 0).numV L) ++ L.drop q := by
  unfold Rs.num at h ⊢
  unfold Rs.numV
  rw [if_pos rfl] at h ⊢
  rw [if_pos rfl]
  cases hn : numP (L.drop p) 0 0 with
  | ok a k =>
    simp only
    obtain ⟨v, ha, ht, -⟩ := numP_conv _ _ _ _ _ (all8_drop h8 p) hn
    refine ⟨p + k, rfl, ?_⟩
    simp only [Nat.mul_zero, Nat.pow_zero, Nat.mul_one, Nat.zero_add, Nat.sub_zero] at ha ht
    rw [ha, ← ht, ← List.drop_drop, List.take_append_drop]
  | bad code =>
    simp only [hn] at h
    have := numP_code _ _ _ _ hn
    omega
theorem tok_conv {L : List Nat} (h8 : All8 L) (p : Nat) (h : rtE ⟨p, 0, 0⟩ L = 0) : ∃ q, rtS ⟨p, 0, 0⟩ L = ⟨q, 0, 0⟩ ∧ Tok.can (rtT ⟨p, 0, 0⟩ L) ∧ L.drop p = encT (rtT ⟨p, 0, 0⟩ L) ++ L.drop q := by
  have hf2 : (((Rs.mk p 0 0).num L).num L).fe = 0 := by
    unfold rtE at h
    split at h
    · contradiction
    · rename_i h1; simpa using h1
  have hf1 : ((Rs.mk p 0 0).num L).fe = 0 := by
    by_cases h1 : ((Rs.mk p 0 0).num L).fe = 0
    · exact h1
    · rw [(Rs.num_stuck _ L h1).1] at hf2; exact hf2
  obtain ⟨q1, e1, d1⟩ := num_conv h8 p hf1
  have hc1 := Rs.numV_max ⟨p, 0, 0⟩ L
  generalize hcn : (Rs.mk p 0 0).numV L = cn at *
  unfold rtE at h
  unfold rtS rtT
  rw [hcn] at h ⊢
  rw [e1] at h ⊢ hf2
  obtain ⟨q2, e2, d2⟩ := num_conv h8 q1 hf2
  have hc2 := Rs.numV_max ⟨q1, 0, 0⟩ L
  generalize hqn : (Rs.mk q1 0 0).numV L = x at *
  rw [e2] at h ⊢
  rw [if_neg (by simp)] at h
  by_cases hc : 0 < cn
  · rw [if_pos hc, if_pos hc]
    have hk : (⟨(x : Int), (cn : Int), []⟩ : Tok).isK = true := by simp [Tok.isK]; omega
    refine ⟨q2, rfl, .inl hk, ?_⟩
    have : encT ⟨(x : Int), (cn : Int), []⟩ = numL cn ++ numL x := by unfold encT; rw [if_pos hk]; simp
    rw [this, d1, d2, List.append_assoc]
  · obtain rfl : cn = 0 := by omega
    rw [if_neg hc] at h
    rw [if_neg hc, if_neg hc]
    split at h
    · cases h
    · rename_i hx0
      split at h
      · cases h
      · rename_i hfit
        simp only at hfit
        have hl : ((L.drop q2).take x).length = x := by rw [List.length_take, List.length_drop]; omega
        have hb : (⟨0, 0, (L.drop q2).take x⟩ : Tok).isB = true := by simp only [Tok.isB, decide_eq_true_eq]; exact ⟨trivial, trivial, by rw [hl]; omega⟩
        refine ⟨q2 + x, rfl, .inr hb, ?_⟩
        have : encT ⟨0, 0, (L.drop q2).take x⟩ = numL 0 ++ (numL x ++ (L.drop q2).take x) := by
          unfold encT
          rw [if_neg (by simp [Tok.isK]), hl]
          rfl
        rw [this, d1, d2, List.append_assoc, List.append_assoc, ← List.drop_drop, List.take_append_drop]
theorem readN_conv {L : List Nat} (h8 : All8 L) : ∀ (k p : Nat) (ts out : List Tok), p ≤ L.length → readN L k ⟨p, 0, 0⟩ ts = .ok out → ∃ us, out = ts ++ us ∧ us.length = k ∧ (∀ t ∈ us, Tok.can t) ∧ L.drop p = encs us
  | 0, p, ts, out, hp, h => by
    rw [readN] at h
    split at h
    · cases h
    · rename_i h1
      injection h with h
      refine ⟨[], by rw [← h, List.append_nil], rfl, (fun t ht => by cases ht), ?_⟩
      have h2 : ¬ p < L.length := by
        intro h3
        apply h1
        unfold Rs.fin
        rw [if_pos ⟨rfl, h3⟩]
        show (31 : Int) ≠ 0
        decide
      exact List.drop_eq_nil_of_le (by omega)
  | k + 1, p, ts, out, hp, h => by
    rw [readN] at h
    split at h
    · cases h
    · rename_i h1
      have h0 : rtE ⟨p, 0, 0⟩ L = 0 := by simpa using h1
      have hq := rtS_at (s := ⟨p, 0, 0⟩) hp h0
      obtain ⟨q, e, hc, hd⟩ := tok_conv h8 p h0
      rw [e] at h hq
      obtain ⟨us, e1, e2, e3, e4⟩ := readN_conv h8 k q _ _ hq h
      refine ⟨rtT ⟨p, 0, 0⟩ L :: us, by rw [e1, List.append_assoc]; rfl, by rw [List.length_cons, e2], fun t ht => ?_, ?_⟩
      · rcases List.mem_cons.1 ht with rfl | ht
        · exact hc
        · exact e3 t ht
      · rw [hd, e4]; rfl
/-- What is read is written as it was. -/
theorem readR_conv {L : List Nat} {ts : List Tok} (h8 : All8 L) (h : readR L = .ok ts) : bytesE ts = 0 ∧ bytesL ts = L := by
  unfold readR at h
  split at h
  · cases h
  · rename_i h1
    have h0 : ((Rs.mk 0 0 0).num L).fe = 0 := by simpa using h1
    split at h
    · cases h
    · rename_i h2
      obtain ⟨q, e, hd⟩ := num_conv h8 0 h0
      have hq := num_le (s := ⟨0, 0, 0⟩) (L := L) (by simp)
      rw [e] at h hq
      obtain ⟨us, e1, e2, e3, e4⟩ := readN_conv h8 _ q _ _ hq h
      rw [List.nil_append] at e1
      subst e1
      have hl : ts.length ≤ 8192 := by omega
      refine ⟨?_, ?_⟩
      · unfold bytesE
        rw [if_neg (by omega), if_pos e3]
      · unfold bytesL
        rw [e2, ← e4]
        have : L.drop 0 = L := rfl
        rw [← hd, this]
end Go.Proofs.YtkinpbhbgeiflaaDoor.Ea
