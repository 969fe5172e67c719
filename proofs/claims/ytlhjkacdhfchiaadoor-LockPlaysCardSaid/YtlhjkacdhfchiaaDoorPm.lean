/- Paths in plain lists of bytes. -/
import Derived.Lib.SplitLaws
namespace Go.Proofs.YtlhjkacdhfchiaaDoor.Pm
set_option linter.unusedVariables false
set_option linter.unusedSimpArgs false
open Go.Lib
/-- How many bytes stand ahead of the first slash. -/
def fs : List UInt8 → Nat
  | [] => 0
  | c :: l => if c = 47 then 0 else fs l + 1
/-- The segments. -/
def segs : List UInt8 → List (List UInt8)
  | [] => [[]]
  | c :: l => if c = 47 then [] :: segs l else match segs l with
    | [] => [[c]]
    | g :: gs => (c :: g) :: gs
theorem segs_cons (c : UInt8) (l : List UInt8) : segs (c :: l) = if c = 47 then [] :: segs l else match segs l with
    | [] => [[c]]
    | g :: gs => (c :: g) :: gs := rfl
theorem fs_cons (c : UInt8) (l : List UInt8) : fs (c :: l) = if c = 47 then 0 else fs l + 1 := rfl
theorem segs_at (l : List UInt8) : segs l = l.take (fs l) :: (if fs l < l.length then segs (l.drop (fs l + 1)) else []) := by
  induction l with
  | nil => rfl
  | cons c l ih =>
    rw [segs_cons, fs_cons]
    by_cases h : c = 47
    · rw [if_pos h, if_pos h]; simp
    · rw [if_neg h, if_neg h, ih]
      simp
theorem fs_le (l : List UInt8) : fs l ≤ l.length := by
  induction l with
  | nil => exact Nat.le_refl _
  | cons c l ih =>
    unfold fs
    split
    · exact Nat.zero_le _
    · simp only [List.length_cons]; omega
theorem fs_is {l : List UInt8} {k : Nat} (h1 : ∀ j, j < k → l[j]? ≠ some 47) (hk : k ≤ l.length) (h2 : k = l.length ∨ l[k]? = some 47) : fs l = k := by
  induction l generalizing k with
  | nil => simp at hk; subst hk; rfl
  | cons c l ih =>
    unfold fs
    cases k with
    | zero =>
      rcases h2 with h2 | h2
      · simp at h2
      · simp at h2; rw [if_pos h2]
    | succ k =>
      have h0 := h1 0 (by omega)
      simp at h0
      have h3 : fs l = k := ih (fun j hj => by simpa using h1 (j + 1) (by omega)) (by simpa using hk) (by
        rcases h2 with h2 | h2
        · left; simpa using h2
        · right; simpa using h2)
      rw [if_neg h0, h3]
theorem index_fs (l : List UInt8) : index l [47] = if fs l < l.length then (fs l : Int) else -1 := by
  induction l with
  | nil => rfl
  | cons c l ih =>
    unfold index fs
    by_cases h : c = 47
    · subst h; simp
    · rw [if_neg h]
      have : ([47] : List UInt8).isPrefixOf (c :: l) = false := by
        simp [List.isPrefixOf]
        exact fun e => h e.symm
      rw [this, ih]
      simp only [List.length_cons, Nat.add_lt_add_iff_right]
      by_cases h2 : fs l < l.length
      · rw [if_pos h2, if_pos h2]
        have : ((fs l : Int) == -1) = false := by rw [beq_eq_false_iff_ne]; omega
        simp [this]
      · rw [if_neg h2, if_neg h2]
        rfl
theorem count_fs (l : List UInt8) : count l [47] = if fs l < l.length then 1 + count (l.drop (fs l + 1)) [47] else 0 := by
  rw [count_one]
  induction l with
  | nil => rfl
  | cons c l ih =>
    unfold fs
    by_cases h : c = 47
    · subst h; simp [count_one]; omega
    · rw [if_neg h, List.count_cons_of_ne (fun e => h e), ih]
      simp
theorem splitK_segs : ∀ (n : Nat) (l : List UInt8), l.length ≤ n → splitK [47] 0 (count l [47]) l = segs l := by
  intro n
  induction n with
  | zero =>
    intro l hl
    obtain rfl : l = [] := List.length_eq_zero_iff.1 (by omega)
    rfl
  | succ n ih =>
    intro l hl
    rw [segs_at, count_fs]
    by_cases h : fs l < l.length
    · rw [if_pos h, if_pos h, Nat.add_comm]
      unfold splitK
      rw [index_fs, if_pos h]
      have : ((fs l : Int) == -1) = false := by rw [beq_eq_false_iff_ne]; omega
      rw [this]
      simp only [Bool.false_eq_true, if_false, Int.toNat_natCast, Nat.add_zero, List.length_cons, List.length_nil, Nat.zero_add]
      rw [ih _ (by rw [List.length_drop]; omega)]
    · rw [if_neg h, if_neg h]
      unfold splitK
      rw [List.take_of_length_le (by omega)]
theorem splitB_segs (s : ByteArray) : (splitB ⟨#[47]⟩ 0 (countB s ⟨#[47]⟩) s).map (·.data.toList) = segs s.data.toList := by
  rw [splitB_data]
  exact splitK_segs _ _ (Nat.le_refl _)
/-- May a byte stand in a segment? -/
def okB (c : UInt8) : Bool := decide (97 ≤ c.toNat ∧ c.toNat ≤ 122) || decide (48 ≤ c.toNat ∧ c.toNat ≤ 57) || decide (c.toNat = 95) || decide (c.toNat = 45) || decide (c.toNat = 46)
/-- The first byte that may not. -/
def badAt : List UInt8 → Option Nat
  | [] => none
  | c :: l => if okB c then (badAt l).map (· + 1) else some 0
def flawP (g : List UInt8) : Option Nat := if g = [] ∨ g = [46] ∨ g = [46, 46] ∨ 16 < g.length then some 0 else badAt g
def chk : Nat → Nat → List (List UInt8) → Option Nat
  | _, _, [] => none
  | st, i, g :: gs => if i = 6 then some st else match flawP g with
    | some a => some (st + a)
    | none => chk (st + g.length + 1) (i + 1) gs
/-- Where a text isn't a path. -/
def check (l : List UInt8) : Option Nat := if l = [] then some 0 else if 64 < l.length then some 64 else chk 0 0 (segs l)
theorem badAt_is {g : List UInt8} {k : Nat} (h1 : ∀ j, j < k → ∀ c, g[j]? = some c → okB c = true) (h2 : ∃ c, g[k]? = some c ∧ okB c = false) : badAt g = some k := by
  induction g generalizing k with
  | nil => obtain ⟨c, hc, _⟩ := h2; simp at hc
  | cons c g ih =>
    obtain ⟨d, hd, hn⟩ := h2
    unfold badAt
    cases k with
    | zero =>
      simp at hd; subst hd
      rw [hn]; rfl
    | succ k =>
      rw [h1 0 (by omega) c rfl]
      simp only [if_true]
      have h3 : badAt g = some k := ih (fun j hj e he => h1 (j + 1) (by omega) e (by simpa using he)) ⟨d, by simpa using hd, hn⟩
      rw [h3]
      rfl
theorem badAt_none {g : List UInt8} (h1 : ∀ j, j < g.length → ∀ c, g[j]? = some c → okB c = true) : badAt g = none := by
  induction g with
  | nil => rfl
  | cons c g ih =>
    unfold badAt
    rw [h1 0 (by simp) c rfl]
    simp only [if_true]
    rw [ih (fun j hj e he => h1 (j + 1) (by simpa using hj) e (by simpa using he))]
    rfl
theorem badAt_lt {g : List UInt8} {k : Nat} (h : badAt g = some k) : k < g.length := by
  induction g generalizing k with
  | nil => cases h
  | cons c g ih =>
    unfold badAt at h
    split at h
    · cases hb : badAt g with
      | none => rw [hb] at h; cases h
      | some j =>
        rw [hb] at h
        simp at h
        have := ih hb
        simp only [List.length_cons]; omega
    · injection h with h
      subst h; simp
theorem flawP_le {g : List UInt8} {k : Nat} (h : flawP g = some k) : k ≤ g.length := by
  unfold flawP at h
  split at h
  · injection h with h; omega
  · exact Nat.le_of_lt (badAt_lt h)
theorem chk_at (st i : Nat) (l : List UInt8) : chk st i (segs l) = if i = 6 then some st else match flawP (l.take (fs l)) with
    | some a => some (st + a)
    | none => if fs l < l.length then chk (st + fs l + 1) (i + 1) (segs (l.drop (fs l + 1))) else none := by
  have hl : (l.take (fs l)).length = fs l := by rw [List.length_take]; have := fs_le l; omega
  rw [segs_at]
  show (if i = 6 then some st else match flawP (l.take (fs l)) with
    | some a => some (st + a)
    | none => chk (st + (l.take (fs l)).length + 1) (i + 1) (if fs l < l.length then segs (l.drop (fs l + 1)) else [])) = _
  rw [hl]
  split
  · rfl
  · cases flawP (l.take (fs l)) with
    | some a => rfl
    | none =>
      simp only
      split
      · rfl
      · rfl
end Go.Proofs.YtlhjkacdhfchiaaDoor.Pm
