/- Which texts are paths. -/
import Derived.Test.YtpaijhmbfljfmaaDoorPm
namespace Go.Proofs.YtpaijhmbfljfmaaDoor.Ph
set_option linter.unusedVariables false
set_option linter.unusedSimpArgs false
open Go.Proofs.YtpaijhmbfljfmaaDoor.Pm
theorem segs_ne (l : List UInt8) : segs l ≠ [] := by rw [segs_at]; simp
theorem segs_slash (a b : List UInt8) : segs (a ++ 47 :: b) = segs a ++ segs b := by
  induction a with
  | nil => rfl
  | cons c a ih =>
    rw [List.cons_append, segs_cons, segs_cons, ih]
    split
    · rfl
    · cases h : segs a with
      | nil => exact absurd h (segs_ne a)
      | cons g gs => rfl
theorem chk_none : ∀ (G : List (List UInt8)) (st i : Nat), i ≤ 6 → (chk st i G = none ↔ (∀ g ∈ G, flawP g = none) ∧ i + G.length ≤ 6)
  | [], st, i, h => by simp [chk, h]
  | g :: gs, st, i, h => by
    show ((if i = 6 then some st else match flawP g with
      | some a => some (st + a)
      | none => chk (st + g.length + 1) (i + 1) gs) = none) ↔ _
    by_cases h6 : i = 6
    · rw [if_pos h6]
      simp only [reduceCtorEq, List.length_cons, false_iff]
      intro hh
      omega
    · rw [if_neg h6]
      cases hf : flawP g with
      | some a => simp [hf]
      | none =>
        simp only
        rw [chk_none gs _ (i + 1) (by omega)]
        simp only [List.mem_cons, forall_eq_or_imp, hf, true_and, List.length_cons]
        constructor
        · rintro ⟨h1, h2⟩; exact ⟨h1, by omega⟩
        · rintro ⟨h1, h2⟩; exact ⟨h1, by omega⟩
theorem check_none (l : List UInt8) : check l = none ↔ l.length ≤ 64 ∧ (segs l).length ≤ 6 ∧ ∀ g ∈ segs l, flawP g = none := by
  unfold check
  by_cases h0 : l = []
  · rw [if_pos h0, h0]
    simp [segs, flawP]
  · rw [if_neg h0]
    by_cases h1 : 64 < l.length
    · rw [if_pos h1]
      simp only [reduceCtorEq, false_iff]
      intro h; omega
    · rw [if_neg h1, chk_none _ _ _ (by omega)]
      constructor
      · rintro ⟨a, b⟩; exact ⟨by omega, by omega, a⟩
      · rintro ⟨a, b, c⟩; exact ⟨c, by omega⟩
theorem check_ne {l : List UInt8} (h : check l = none) : l ≠ [] := by
  intro e; rw [e] at h; exact absurd h (by decide)
/-- A text with a segment that can't be one is no path. -/
theorem check_bad {l g : List UInt8} {p : Nat} (hg : g ∈ segs l) (hf : flawP g = some p) : ∃ q, check l = some q := by
  cases h : check l with
  | some q => exact ⟨q, rfl⟩
  | none =>
    have := (check_none l).1 h
    rw [this.2.2 g hg] at hf
    cases hf
theorem bad_front (a s g : List UInt8) (hs : segs a = [g]) {p : Nat} (hf : flawP g = some p) : ∃ q, check (a ++ 47 :: s) = some q :=
  check_bad (g := g) (by rw [segs_slash, hs]; simp) hf
theorem bad_back (a s g : List UInt8) (hs : segs a = [g]) {p : Nat} (hf : flawP g = some p) : ∃ q, check (s ++ 47 :: a) = some q :=
  check_bad (g := g) (by rw [segs_slash, hs]; simp) hf
/-- What stands ahead of a slash in a path is a path. -/
theorem check_front {a b : List UInt8} (h : check (a ++ 47 :: b) = none) : check a = none := by
  have h1 := (check_none _).1 h
  rw [segs_slash] at h1
  refine (check_none a).2 ⟨?_, ?_, fun g hg => h1.2.2 g (List.mem_append_left _ hg)⟩
  · have := h1.1; simp at this; omega
  · have := h1.2.1; simp at this; omega
theorem check_last (r : List UInt8) : ∃ q, check (r ++ [47]) = some q := bad_back [] r [] rfl (p := 0) rfl
/-- Segments alike, with slashes between. -/
def rep (g : List UInt8) : Nat → List UInt8
  | 0 => []
  | 1 => g
  | n + 2 => rep g (n + 1) ++ 47 :: g
theorem rep_step (g : List UInt8) (n : Nat) (h : 0 < n) : rep g (n + 1) = rep g n ++ 47 :: g := by
  cases n with
  | zero => omega
  | succ n => rfl
theorem rep_length (g : List UInt8) : ∀ n, 0 < n → (rep g n).length + 1 = n * (g.length + 1)
  | 0, h => by omega
  | 1, _ => by simp [rep]
  | n + 2, _ => by
    have := rep_length g (n + 1) (by omega)
    rw [rep_step g (n + 1) (by omega), List.length_append, List.length_cons, show (n + 2) * (g.length + 1) = (n + 1) * (g.length + 1) + (g.length + 1) by rw [Nat.add_mul, Nat.add_mul]; omega]
    omega
theorem segs_no {g : List UInt8} (h : ∀ c ∈ g, c ≠ 47) : segs g = [g] := by
  induction g with
  | nil => rfl
  | cons c g ih =>
    rw [segs_cons, if_neg (h c (List.mem_cons_self ..)), ih (fun d hd => h d (List.mem_cons_of_mem _ hd))]
theorem segs_rep {g : List UInt8} (h : ∀ c ∈ g, c ≠ 47) : ∀ n, 0 < n → segs (rep g n) = List.replicate n g
  | 0, h0 => by omega
  | 1, _ => segs_no h
  | n + 2, _ => by
    rw [rep_step g (n + 1) (by omega), segs_slash, segs_rep h (n + 1) (by omega), segs_no h, List.replicate_succ' (n := n + 1)]
theorem chk_rep {g : List UInt8} (hf : flawP g = none) : ∀ (n st i : Nat), i ≤ 6 → chk st i (List.replicate n g) = if i + n ≤ 6 then none else some (st + (6 - i) * (g.length + 1))
  | 0, st, i, h => by rw [if_pos (by omega)]; rfl
  | n + 1, st, i, h => by
    rw [List.replicate_succ]
    show (if i = 6 then some st else match flawP g with
      | some a => some (st + a)
      | none => chk (st + g.length + 1) (i + 1) (List.replicate n g)) = _
    by_cases h6 : i = 6
    · rw [if_pos h6, if_neg (by omega), h6]; simp
    · rw [if_neg h6, hf]
      simp only
      rw [chk_rep hf n _ (i + 1) (by omega)]
      by_cases hc : i + (n + 1) ≤ 6
      · rw [if_pos hc, if_pos (by omega)]
      · rw [if_neg hc, if_neg (by omega), show 6 - i = (6 - (i + 1)) + 1 by omega, Nat.add_mul]
        congr 1
        omega
end Go.Proofs.YtpaijhmbfljfmaaDoor.Ph
