/- path.Set's answer, plainly: sorted, each once; what the first clash is. -/
import Derived.Test.YtlhjkacdhfchiaaDoorPx
namespace Go.Proofs.YtlhjkacdhfchiaaDoor.Py
set_option linter.unusedVariables false
set_option linter.unusedSimpArgs false
open Go.Proofs.YtlhjkacdhfchiaaDoor.Pm Go.Proofs.YtlhjkacdhfchiaaDoor.Pg Go.Proofs.YtlhjkacdhfchiaaDoor.Ps Go.Proofs.YtlhjkacdhfchiaaDoor.Pt Go.Proofs.YtlhjkacdhfchiaaDoor.Pu Go.Proofs.YtlhjkacdhfchiaaDoor.Pv Go.Proofs.YtlhjkacdhfchiaaDoor.Px
abbrev Tx := List UInt8
theorem less_eq : ∀ (x y : Tx), Op.bytesLess x y = decide (x < y)
  | [], [] => by simp [Op.bytesLess]
  | _ :: _, [] => by simp [Op.bytesLess]
  | [], _ :: _ => by simp [Op.bytesLess]
  | a :: x, b :: y => by
    rw [Op.bytesLess, less_eq x y]
    simp only [List.cons_lt_cons_iff]
    by_cases h1 : a < b <;> by_cases h2 : a = b <;> by_cases h3 : x < y <;> simp [h1, h2, h3]
theorem tx_eq {a b : Tx} (h : ¬ a < b) (h2 : ¬ b < a) : a = b := List.le_antisymm (List.not_lt.1 h2) (List.not_lt.1 h)
def Srt (S : List Tx) : Prop := S.Pairwise (· < ·)
theorem bsGo_in (less : Nat → Bool) (k n : Nat) (h1 : ∀ t, t < k → less t = true) (h2 : ∀ t, k ≤ t → t < n → less t = false) : ∀ (f lo hi : Nat), hi - lo ≤ f → lo ≤ k → k ≤ hi → hi ≤ n → Lib.bsGo less f lo hi = k
  | 0, lo, hi, hf, a, b, c => by simp [Lib.bsGo]; omega
  | f + 1, lo, hi, hf, a, b, c => by
    unfold Lib.bsGo
    by_cases h : lo < hi
    · rw [if_pos h]
      by_cases hm : (lo + hi) / 2 < k
      · rw [h1 _ hm, if_pos rfl]; exact bsGo_in less k n h1 h2 f _ _ (by omega) (by omega) b c
      · rw [h2 _ (by omega) (by omega)]; exact bsGo_in less k n h1 h2 f _ _ (by omega) a (by omega) (by omega)
    · rw [if_neg h]; omega
/-- The head that lies below p. -/
def low (S : List Tx) (p : Tx) : List Tx := S.takeWhile fun o => decide (o < p)
def high (S : List Tx) (p : Tx) : List Tx := S.dropWhile fun o => decide (o < p)
theorem low_high (S : List Tx) (p : Tx) : low S p ++ high S p = S := List.takeWhile_append_dropWhile
theorem low_lt {S : List Tx} {p o : Tx} (h : o ∈ low S p) : o < p := by
  have : ∀ (S : List Tx), ∀ o ∈ low S p, o < p := by
    intro S
    induction S with
    | nil => intro o h; cases h
    | cons a S ih =>
      intro o h
      unfold low at h ih
      rw [List.takeWhile_cons] at h
      by_cases ha : a < p
      · simp only [ha, decide_true, if_true] at h
        rcases List.mem_cons.1 h with rfl | h
        · exact ha
        · exact ih o h
      · simp [ha] at h
  exact this S o h
theorem high_ge : ∀ {S : List Tx} {p o : Tx}, Srt S → o ∈ high S p → ¬ o < p
  | [], p, o, _, h => by cases h
  | a :: S, p, o, hs, h => by
    unfold high at h
    rw [List.dropWhile_cons] at h
    by_cases ha : a < p
    · simp only [ha, decide_true, if_true] at h
      exact high_ge (List.Pairwise.of_cons hs) h
    · simp only [ha, decide_false, Bool.false_eq_true, if_false] at h
      rcases List.mem_cons.1 h with rfl | h
      · exact ha
      · intro ho
        exact ha (List.lt_trans (List.rel_of_pairwise_cons hs h) ho)
theorem place_is {S : List Tx} {p : Tx} (hs : Srt S) : place S p = (low S p).length := by
  unfold place
  have hl : S.length = (low S p).length + (high S p).length := by
    have := congrArg List.length (low_high S p)
    rw [List.length_append] at this
    exact this.symm
  have hat : ∀ t : Nat, S[t]? = (low S p ++ high S p)[t]? := fun t => by rw [low_high]
  refine bsGo_in _ _ S.length (fun t ht => ?_) (fun t ht htn => ?_) _ _ _ (by omega) (by omega) (by omega) (Nat.le_refl _)
  · rw [hat, List.getElem?_append_left ht, List.getElem?_eq_getElem ht, less_eq]
    simpa using low_lt (List.getElem_mem ht)
  · rw [hat, List.getElem?_append_right ht, List.getElem?_eq_getElem (by omega), less_eq]
    simpa using high_ge hs (List.getElem_mem _)
theorem ins_is {S : List Tx} {p : Tx} (hs : Srt S) : ins S p = low S p ++ p :: high S p := by
  unfold ins
  rw [place_is hs]
  have h := low_high S p
  have e1 : S.take (low S p).length = low S p := (congrArg (List.take (low S p).length) h.symm).trans List.take_left
  have e2 : S.drop (low S p).length = high S p := (congrArg (List.drop (low S p).length) h.symm).trans List.drop_left
  rw [e1, e2, List.append_assoc]
  rfl
theorem ins_perm {S : List Tx} {p : Tx} (hs : Srt S) : (ins S p).Perm (p :: S) := by
  rw [ins_is hs]
  have := List.perm_middle (a := p) (l₁ := low S p) (l₂ := high S p)
  rwa [low_high] at this
theorem ins_srt {S : List Tx} {p : Tx} (hs : Srt S) (hp : ∀ o ∈ S, o ≠ p) : Srt (ins S p) := by
  rw [ins_is hs]
  have h := hs
  unfold Srt at h
  rw [← low_high S p, List.pairwise_append] at h
  obtain ⟨h1, h2, h3⟩ := h
  have hg : ∀ o ∈ high S p, p < o := fun o ho => by
    have hn := high_ge hs ho
    have hne := hp o (by rw [← low_high S p]; exact List.mem_append_right _ ho)
    by_cases hlt : p < o
    · exact hlt
    · exact absurd (tx_eq hn hlt) hne
  refine List.pairwise_append.2 ⟨h1, List.pairwise_cons.2 ⟨hg, h2⟩, fun a ha b hb => ?_⟩
  rcases List.mem_cons.1 hb with rfl | hb
  · exact low_lt ha
  · exact h3 a ha b hb
/-- What is wrong between two. -/
def bad (p o : Tx) : Int := if o = p then 5 else if (pre o p || pre p o) = true then 90 else 0
theorem agn_cons (p o : Tx) (S : List Tx) : agn p (o :: S) = if bad p o = 0 then agn p S else bad p o := by
  unfold bad
  rw [agn]
  split
  · simp
  · split <;> simp
theorem agn_zero {p : Tx} : ∀ {S : List Tx}, agn p S = 0 ↔ ∀ o ∈ S, bad p o = 0
  | [] => by simp [agn]
  | o :: S => by
    rw [agn_cons]
    by_cases h : bad p o = 0
    · rw [if_pos h, agn_zero]; simp [h]
    · rw [if_neg h]; simp [h]
/-- The first in their order that is wrong tells. -/
theorem agn_least {p : Tx} : ∀ {S : List Tx}, Srt S → agn p S ≠ 0 → ∃ f ∈ S, bad p f ≠ 0 ∧ agn p S = bad p f ∧ ∀ o ∈ S, bad p o ≠ 0 → ¬ o < f
  | [], _, h => by simp [agn] at h
  | o :: S, hs, h => by
    rw [agn_cons] at h ⊢
    by_cases hb : bad p o = 0
    · rw [if_pos hb] at h ⊢
      obtain ⟨f, h1, h2, h3, h4⟩ := agn_least (List.Pairwise.of_cons hs) h
      refine ⟨f, List.mem_cons_of_mem _ h1, h2, h3, fun x hx hx2 => ?_⟩
      rcases List.mem_cons.1 hx with rfl | hx
      · exact absurd hb hx2
      · exact h4 x hx hx2
    · rw [if_neg hb]
      refine ⟨o, List.mem_cons_self, hb, rfl, fun x hx hx2 => ?_⟩
      rcases List.mem_cons.1 hx with rfl | hx
      · exact List.lt_irrefl x
      · exact List.lt_asymm (List.rel_of_pairwise_cons hs hx)
/-- The reference's step: the least so far that is wrong, and how. -/
def stp (p : Tx) (s : Int × Tx) (o : Tx) : Int × Tx := if bad p o ≠ 0 ∧ (s.1 = 0 ∨ o < s.2) then (bad p o, o) else s
def scan (p : Tx) (T : List Tx) : Int × Tx := T.foldl (stp p) (0, [])
theorem scan_is (p : Tx) : ∀ (T : List Tx) (s : Int × Tx), (s.1 = 0 ∨ s.1 = bad p s.2) →
    ((T.foldl (stp p) s).1 = 0 → s.1 = 0 ∧ ∀ o ∈ T, bad p o = 0) ∧
    ((T.foldl (stp p) s).1 ≠ 0 → (T.foldl (stp p) s).1 = bad p (T.foldl (stp p) s).2 ∧ ((T.foldl (stp p) s).2 ∈ T ∨ (s.1 ≠ 0 ∧ (T.foldl (stp p) s).2 = s.2)) ∧ (s.1 ≠ 0 → ¬ s.2 < (T.foldl (stp p) s).2) ∧ ∀ o ∈ T, bad p o ≠ 0 → ¬ o < (T.foldl (stp p) s).2)
  | [], s, hs => by
    refine ⟨fun h => ⟨h, by simp⟩, fun h => ?_⟩
    simp only [List.foldl_nil] at h ⊢
    exact ⟨hs.resolve_left h, .inr (by simpa using h), fun _ => List.lt_irrefl _, by simp⟩
  | o :: T, s, hs => by
    rw [List.foldl_cons]
    have hs' : (stp p s o).1 = 0 ∨ (stp p s o).1 = bad p (stp p s o).2 := by
      unfold stp
      split
      · exact .inr rfl
      · exact hs
    obtain ⟨h1, h2⟩ := scan_is p T (stp p s o) hs'
    refine ⟨fun h => ?_, fun h => ?_⟩
    · obtain ⟨h3, h4⟩ := h1 h
      unfold stp at h3
      split at h3
      · rename_i hc
        exact absurd h3 hc.1
      · rename_i hc
        have hb : bad p o = 0 := by
          by_cases hb : bad p o = 0
          · exact hb
          · exact absurd ⟨hb, .inl h3⟩ hc
        refine ⟨h3, fun x hx => ?_⟩
        rcases List.mem_cons.1 hx with rfl | hx
        · exact hb
        · exact h4 x hx
    · obtain ⟨h3, h4, h5, h6⟩ := h2 h
      generalize List.foldl (stp p) (stp p s o) T = F at *
      by_cases hc : bad p o ≠ 0 ∧ (s.1 = 0 ∨ o < s.2)
      · have e : stp p s o = (bad p o, o) := by unfold stp; rw [if_pos hc]
        rw [e] at h4 h5
        have ho : ¬ o < F.2 := h5 hc.1
        refine ⟨h3, ?_, fun hs0 hlt => ?_, fun x hx hx2 => ?_⟩
        · rcases h4 with h4 | ⟨_, h4⟩
          · exact .inl (List.mem_cons_of_mem _ h4)
          · exact .inl (by rw [h4]; exact List.mem_cons_self)
        · rcases hc.2 with h0 | hlt2
          · exact hs0 h0
          · exact ho (List.lt_trans hlt2 hlt)
        · rcases List.mem_cons.1 hx with rfl | hx
          · exact ho
          · exact h6 x hx hx2
      · have e : stp p s o = s := by unfold stp; rw [if_neg hc]
        rw [e] at h4 h5
        refine ⟨h3, ?_, h5, fun x hx hx2 => ?_⟩
        · rcases h4 with h4 | h4
          · exact .inl (List.mem_cons_of_mem _ h4)
          · exact .inr h4
        · rcases List.mem_cons.1 hx with rfl | hx
          · intro hlt
            have hs0 : s.1 ≠ 0 := fun h0 => hc ⟨hx2, .inl h0⟩
            have hxs : ¬ x < s.2 := fun h0 => hc ⟨hx2, .inr h0⟩
            by_cases hsx : s.2 < x
            · exact h5 hs0 (List.lt_trans hsx hlt)
            · have := tx_eq hxs hsx
              rw [this] at hlt
              exact h5 hs0 hlt
          · exact h6 x hx hx2
/-- Both sides find the same wrong. -/
theorem scan_agn {p : Tx} {S T : List Tx} (hs : Srt S) (hp : S.Perm T) : (scan p T).1 = agn p S := by
  obtain ⟨h1, h2⟩ := scan_is p T (0, []) (.inl rfl)
  unfold scan
  by_cases h0 : (T.foldl (stp p) (0, [])).1 = 0
  · rw [h0]
    exact (agn_zero.2 fun o ho => (h1 h0).2 o (hp.mem_iff.1 ho)).symm
  · obtain ⟨h3, h4, -, h6⟩ := h2 h0
    have h4' : (T.foldl (stp p) (0, [])).2 ∈ T := h4.resolve_right fun h => h.1 rfl
    have hb : bad p (T.foldl (stp p) (0, [])).2 ≠ 0 := by rw [← h3]; exact h0
    have hne : agn p S ≠ 0 := fun hz => hb (agn_zero.1 hz _ (hp.mem_iff.2 h4'))
    obtain ⟨f, f1, f2, f3, f4⟩ := agn_least hs hne
    have e : f = (T.foldl (stp p) (0, [])).2 := tx_eq (h6 f (hp.mem_iff.1 f1) f2) (f4 _ (hp.mem_iff.2 h4') hb)
    rw [h3, f3, e]
/-- What Set makes of a right list is sorted, and of the list. -/
theorem setF_inl : ∀ {R S S' : List Tx} {i : Nat}, Srt S → setF S i R = .inl S' → Srt S' ∧ S'.Perm (S ++ R)
  | [], S, S', i, hs, h => by
    simp [setF] at h
    subst h
    exact ⟨hs, by rw [List.append_nil]⟩
  | p :: R, S, S', i, hs, h => by
    rw [setF] at h
    split at h
    · split at h
      · rename_i hz
        have hne : ∀ o ∈ S, o ≠ p := fun o ho e => by
          have := agn_zero.1 hz o ho
          unfold bad at this
          rw [if_pos e] at this
          cases this
        obtain ⟨h1, h2⟩ := setF_inl (ins_srt hs hne) h
        refine ⟨h1, h2.trans ?_⟩
        refine ((ins_perm hs).append_right R).trans ?_
        exact List.perm_middle.symm
      · cases h
    · cases h
end Go.Proofs.YtlhjkacdhfchiaaDoor.Py
