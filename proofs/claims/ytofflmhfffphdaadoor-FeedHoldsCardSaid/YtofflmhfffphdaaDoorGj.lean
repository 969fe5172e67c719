/- How many bytes a feed holds at most; frames that are written. -/
import Derived.Test.YtofflmhfffphdaaDoorGi
import Derived.Test.YtofflmhfffphdaaDoorFb
import Derived.Test.YtofflmhfffphdaaDoorFq
namespace Go.Proofs.YtofflmhfffphdaaDoor.Gj
set_option linter.unusedVariables false
set_option linter.unusedSimpArgs false
set_option maxRecDepth 100000
open Go.RowKit
open Go.Proofs.YtofflmhfffphdaaDoor.Wu Go.Proofs.YtofflmhfffphdaaDoor.Sm Go.Proofs.YtofflmhfffphdaaDoor.Sh Go.Proofs.YtofflmhfffphdaaDoor.Ba Go.Proofs.YtofflmhfffphdaaDoor.Bp Go.Proofs.YtofflmhfffphdaaDoor.Bq Go.Proofs.YtofflmhfffphdaaDoor.Cm Go.Proofs.YtofflmhfffphdaaDoor.Cr Go.Proofs.YtofflmhfffphdaaDoor.Cv Go.Proofs.YtofflmhfffphdaaDoor.Fa Go.Proofs.YtofflmhfffphdaaDoor.Fb Go.Proofs.YtofflmhfffphdaaDoor.Fh Go.Proofs.YtofflmhfffphdaaDoor.Fi Go.Proofs.YtofflmhfffphdaaDoor.Fo Go.Proofs.YtofflmhfffphdaaDoor.Fq Go.Proofs.YtofflmhfffphdaaDoor.Ga Go.Proofs.YtofflmhfffphdaaDoor.Gb Go.Proofs.YtofflmhfffphdaaDoor.Gc Go.Proofs.YtofflmhfffphdaaDoor.Ge Go.Proofs.YtofflmhfffphdaaDoor.Gf Go.Proofs.YtofflmhfffphdaaDoor.Gh Go.Proofs.YtofflmhfffphdaaDoor.Gi
theorem numP_short : ∀ (X : List Nat) (i a : Nat), i ≤ 6 → numP X i a = .bad 30 → i + X.length ≤ 6
  | [], i, a, hi, _ => by simpa using hi
  | x :: X, i, a, hi, h => by
    unfold numP at h
    split at h
    · injection h with h; omega
    · rename_i h1
      split at h
      · have := numP_short X (i + 1) _ (by omega) h
        simp only [List.length_cons]; omega
      · split at h
        · injection h with h; omega
        · cases h
theorem numP_six : ∀ (X : List Nat) (i a n k : Nat), i ≤ 6 → numP X i a = .ok n k → k ≤ 6
  | [], i, a, n, k, hi, h => by unfold numP at h; cases h
  | x :: X, i, a, n, k, hi, h => by
    unfold numP at h
    split at h
    · cases h
    · rename_i h1
      split at h
      · exact numP_six X (i + 1) _ n k (by omega) h
      · split at h
        · cases h
        · injection h with h2 h3; omega
theorem readR_short {L : List Nat} {p : Int} (h : readR L = .bad 30 p) : L.length ≤ 16391 := by
  unfold readR at h
  cases L with
  | nil => simp
  | cons x X =>
    rw [headR_cons] at h
    by_cases hx : x < 8
    · rw [if_pos hx] at h
      simp only [HR.bad.injEq] at h
      omega
    · rw [if_neg hx] at h
      cases hn : numP X 0 0 with
      | bad c =>
        rw [hn] at h
        simp only [headN, HR.bad.injEq] at h
        have hc : c = 30 := by omega
        subst hc
        have := numP_short X 0 0 (by omega) hn
        simp only [List.length_cons]; omega
      | ok n k =>
        have := numP_six X 0 0 n k (by omega) hn
        rw [hn] at h
        simp only [headN] at h
        by_cases h16 : 16384 < n
        · rw [if_pos h16] at h
          simp only [HR.bad.injEq] at h
          omega
        · rw [if_neg h16] at h
          simp only at h
          split at h
          · rename_i hl; omega
          · cases h
theorem next_held {s s1 : FS} {A : List Nat} {fs : List Fr} (h : s.next A s1 fs) (hs : s.held.length ≤ 16391) : s1.held.length ≤ 16391 := by
  rcases h with ⟨hn, rfl, rfl⟩ | ⟨he, z, c, p, hf, rfl⟩
  · exact hs
  · unfold FS.after
    split
    · rename_i hc
      subst hc
      exact readR_short hf.fits.2.2
    · simp
theorem fed_all (fs : List Fr) (hg : ∀ f ∈ fs, f.good) : Fed (bytesOf fs) fs (bytesOf fs).length 30 0 := by
  have := fed_bytesOf fs hg [] fed_nil
  simpa using this
theorem frL_max (f : Fr) (h : f.good) : (frL f.k f.s f.d).length ≤ 16400 := by
  have := numL_six f.d.length (by have := h.2.2.2; omega)
  rw [frL_length]
  have := h.2.2.2
  omega
theorem bytesOf_snoc (fs : List Fr) (k s : Nat) (D : List Nat) : bytesOf (fs ++ [⟨k, s, D⟩]) = bytesOf fs ++ frL k s D := by rw [bytesOf_append]; simp [bytesOf]
theorem chk_good {k s : Int} {l : Nat} (h : chk k s l = 0) : 1 ≤ k ∧ k ≤ 31 ∧ 0 ≤ s ∧ s ≤ 7 ∧ l ≤ 16384 := by
  unfold chk at h
  split at h
  · exact absurd h (by decide)
  · split at h
    · exact absurd h (by decide)
    · split at h
      · exact absurd h (by decide)
      · omega
end Go.Proofs.YtofflmhfffphdaaDoor.Gj
