/- Bytes that come in pieces, as frames: plain numbers. -/
import Derived.Test.YtpaijhmbfljfmaaDoorFk
namespace Go.Proofs.YtpaijhmbfljfmaaDoor.Ga
set_option linter.unusedVariables false
set_option linter.unusedSimpArgs false
set_option maxRecDepth 100000
open Go.Proofs.YtpaijhmbfljfmaaDoor.Sm Go.Proofs.YtpaijhmbfljfmaaDoor.Sh Go.Proofs.YtpaijhmbfljfmaaDoor.Ba Go.Proofs.YtpaijhmbfljfmaaDoor.Cm Go.Proofs.YtpaijhmbfljfmaaDoor.Cn Go.Proofs.YtpaijhmbfljfmaaDoor.Cr Go.Proofs.YtpaijhmbfljfmaaDoor.Cv Go.Proofs.YtpaijhmbfljfmaaDoor.Fa Go.Proofs.YtpaijhmbfljfmaaDoor.Fc Go.Proofs.YtpaijhmbfljfmaaDoor.Fh Go.Proofs.YtpaijhmbfljfmaaDoor.Fi Go.Proofs.YtpaijhmbfljfmaaDoor.Fk
def headN (x : Nat) (len : Nat) : NumR → HR
  | .bad c => .bad (c : Int) (if c = 30 then ((len + 1 : Nat) : Int) else 1)
  | .ok n k => if 16384 < n then .bad 2 1 else .ok (x / 8) (x % 8) (1 + k) n
theorem numP_bad_ne : ∀ (X : List Nat) (i n c : Nat), numP X i n = .bad c → c = 30 ∨ c = 31 ∨ c = 1
  | [], i, n, c, h => by unfold numP at h; injection h with h; omega
  | x :: X, i, n, c, h => by
    unfold numP at h
    split at h
    · injection h with h; omega
    · split at h
      · exact numP_bad_ne X _ _ _ h
      · split at h
        · injection h with h; omega
        · cases h
theorem headR_cons (x : Nat) (X : List Nat) : headR (x :: X) = if x < 8 then .bad 40 0 else headN x X.length (numP X 0 0) := by
  have hb1 : s0.has (x :: X).length 1 = s0 := by unfold Rs.has; rw [if_neg (by show ¬ (_ ∧ (x :: X).length < 0 + 1); simp)]
  have hb2 : s0.byte (x :: X) = ⟨1, 0, 0⟩ := by unfold Rs.byte; rw [hb1, if_pos (show s0.fe = 0 from rfl)]; rfl
  have hb3 : s0.byteV (x :: X) = x := by unfold Rs.byteV; rw [hb1, if_pos (show s0.fe = 0 from rfl)]; rfl
  unfold headR
  rw [hb2, hb3]
  by_cases hx : x < 8
  · rw [if_pos ⟨by simp, hx⟩, if_pos hx]
  · rw [if_neg (fun h => hx h.2), if_neg hx]
    unfold Rs.num Rs.numV
    simp only [List.drop_succ_cons, List.drop_zero, if_true]
    cases hn : numP X 0 0 with
    | bad c =>
      have := numP_bad_ne _ _ _ _ hn
      have hc : ((c : Nat) : Int) ≠ 0 := by omega
      simp only [headN, List.length_cons]
      rw [if_pos hc]
      rfl
    | ok n k =>
      simp only [headN]
      rw [if_neg (by simp)]
theorem headR_nil : headR [] = .bad 30 0 := rfl
theorem readR_nil : readR [] = .bad 30 0 := rfl
theorem numP_app_ok (B : List Nat) : ∀ (X : List Nat) (i a n k : Nat), numP X i a = .ok n k → numP (X ++ B) i a = .ok n k
  | [], i, a, n, k, h => by unfold numP at h; cases h
  | x :: X, i, a, n, k, h => by
    rw [List.cons_append]
    unfold numP at h ⊢
    split at h
    · cases h
    · rename_i h1
      rw [if_neg h1]
      split at h
      · rename_i h2
        rw [if_pos h2]
        exact numP_app_ok B X _ _ _ _ h
      · rename_i h2
        rw [if_neg h2]
        exact h
theorem numP_app_bad (B : List Nat) : ∀ (X : List Nat) (i a c : Nat), numP X i a = .bad c → c ≠ 30 → numP (X ++ B) i a = .bad c
  | [], i, a, c, h, hc => by unfold numP at h; injection h with h; omega
  | x :: X, i, a, c, h, hc => by
    rw [List.cons_append]
    unfold numP at h ⊢
    split at h
    · rename_i h1
      rw [if_pos h1]; exact h
    · rename_i h1
      rw [if_neg h1]
      split at h
      · rename_i h2
        rw [if_pos h2]
        exact numP_app_bad B X _ _ _ h hc
      · rename_i h2
        rw [if_neg h2]
        exact h
theorem headR_app_ok {L : List Nat} (B : List Nat) {k s h n : Nat} (hR : headR L = .ok k s h n) : headR (L ++ B) = .ok k s h n := by
  cases L with
  | nil => cases hR
  | cons x X =>
    rw [headR_cons] at hR
    rw [List.cons_append, headR_cons]
    split at hR
    · cases hR
    · rename_i hx
      rw [if_neg hx]
      cases hn : numP X 0 0 with
      | bad c => rw [hn] at hR; cases hR
      | ok a b => rw [hn] at hR; rw [numP_app_ok B X _ _ _ _ hn]; exact hR
theorem headR_app_bad {L : List Nat} (B : List Nat) {c p : Int} (hR : headR L = .bad c p) (hc : c ≠ 30) : headR (L ++ B) = .bad c p := by
  cases L with
  | nil => rw [headR_nil] at hR; injection hR with h1 h2; omega
  | cons x X =>
    rw [headR_cons] at hR
    rw [List.cons_append, headR_cons]
    split at hR
    · rename_i hx
      rw [if_pos hx]; exact hR
    · rename_i hx
      rw [if_neg hx]
      cases hn : numP X 0 0 with
      | bad d =>
        rw [hn] at hR
        simp only [headN, HR.bad.injEq] at hR
        have hd : d ≠ 30 := by omega
        rw [numP_app_bad B X _ _ _ hn hd]
        simp only [headN]
        rw [if_neg hd] at hR ⊢
        rw [hR.1, hR.2]
      | ok a b =>
        rw [hn] at hR
        rw [numP_app_ok B X _ _ _ _ hn]
        simp only [headN] at hR ⊢
        split at hR
        · rename_i h16; rw [if_pos h16]; exact hR
        · cases hR
theorem readR_app_ok {L : List Nat} (B : List Nat) {k s h n : Nat} (hR : readR L = .ok k s h n) : readR (L ++ B) = .ok k s h n ∧ h + n ≤ L.length ∧ 0 < h := by
  unfold readR at hR ⊢
  cases hh : headR L with
  | bad c p => rw [hh] at hR; cases hR
  | ok k' s' h' n' =>
    rw [hh] at hR
    rw [headR_app_ok B hh]
    simp only at hR ⊢
    split at hR
    · cases hR
    · rename_i hl
      injection hR with h1 h2 h3 h4
      subst h1 h2 h3 h4
      rw [if_neg (by rw [List.length_append]; omega)]
      exact ⟨rfl, by omega, (headR_ok hh).2.2.2⟩
theorem readR_app_bad {L : List Nat} (B : List Nat) {c p : Int} (hR : readR L = .bad c p) (hc : c ≠ 30) : readR (L ++ B) = .bad c p := by
  unfold readR at hR ⊢
  cases hh : headR L with
  | bad c' p' =>
    rw [hh] at hR
    simp only [HR.bad.injEq] at hR
    obtain ⟨rfl, rfl⟩ := hR
    rw [headR_app_bad B hh hc]
  | ok k' s' h' n' =>
    rw [hh] at hR
    simp only at hR
    split at hR
    · injection hR with h1 h2; omega
    · cases hR
/-- A frame: its kind, its stream, its data. -/
structure Fr where
  k : Nat
  s : Nat
  d : List Nat
/-- The frames at the beginning of bytes, how many bytes they are, and why no more can be read. -/
inductive Fed : List Nat → List Fr → Nat → Int → Int → Prop
  | stop {L : List Nat} {c p : Int} (h : readR L = .bad c p) : Fed L [] 0 c p
  | next {L : List Nat} {k s h n : Nat} {fs : List Fr} {z : Nat} {c p : Int} (hr : readR L = .ok k s h n) (hf : Fed (L.drop (h + n)) fs z c p) : Fed L (⟨k, s, (L.drop h).take n⟩ :: fs) (h + n + z) c p
theorem Fed.det {L : List Nat} {fs : List Fr} {z : Nat} {c p : Int} (h : Fed L fs z c p) : ∀ {fs' : List Fr} {z' : Nat} {c' p' : Int}, Fed L fs' z' c' p' → fs = fs' ∧ z = z' ∧ c = c' ∧ p = p' := by
  induction h with
  | stop h =>
    intro fs' z' c' p' h'
    cases h' with
    | stop h2 => rw [h] at h2; injection h2 with h1 h2; exact ⟨rfl, rfl, h1, h2⟩
    | next h2 _ => rw [h] at h2; cases h2
  | next hr hf ih =>
    intro fs' z' c' p' h'
    cases h' with
    | stop h2 => rw [hr] at h2; cases h2
    | next h2 h3 =>
      rw [hr] at h2
      injection h2 with e1 e2 e3 e4
      subst e1 e2 e3 e4
      obtain ⟨q1, q2, q3, q4⟩ := ih h3
      subst q1 q2
      exact ⟨rfl, rfl, q3, q4⟩
theorem Fed.fits {L : List Nat} {fs : List Fr} {z : Nat} {c p : Int} (h : Fed L fs z c p) : z ≤ L.length ∧ fs.length ≤ z ∧ readR (L.drop z) = .bad c p := by
  induction h with
  | stop h => exact ⟨Nat.zero_le _, Nat.le_refl _, by simpa using h⟩
  | @next L k s h n fs z c p hr hf ih =>
    have := readR_app_ok [] hr
    rw [List.length_drop, List.drop_drop] at ih
    refine ⟨by omega, by simp only [List.length_cons]; omega, ?_⟩
    exact ih.2.2
theorem Fed.total (L : List Nat) : ∃ fs z c p, Fed L fs z c p := by
  generalize hn : L.length = m
  induction m using Nat.strongRecOn generalizing L with
  | _ m ih =>
    cases hr : readR L with
    | bad c p => exact ⟨_, _, _, _, .stop hr⟩
    | ok k s h n =>
      have := readR_app_ok [] hr
      obtain ⟨fs, z, c, p, hf⟩ := ih (L.drop (h + n)).length (by rw [List.length_drop]; omega) (L.drop (h + n)) rfl
      exact ⟨_, _, _, _, .next hr hf⟩
/-- So many frames read, so many bytes. -/
inductive Done (L : List Nat) : List Fr → Nat → Prop
  | zero : Done L [] 0
  | snoc {fs : List Fr} {z k s h n : Nat} (hd : Done L fs z) (hr : readR (L.drop z) = .ok k s h n) : Done L (fs ++ [⟨k, s, ((L.drop z).drop h).take n⟩]) (z + (h + n))
theorem Done.fits {L : List Nat} {fs : List Fr} {z : Nat} (h : Done L fs z) : z ≤ L.length ∧ fs.length ≤ z := by
  induction h with
  | zero => exact ⟨Nat.zero_le _, Nat.le_refl _⟩
  | @snoc fs z k s h n hd hr ih =>
    have := readR_app_ok [] hr
    rw [List.length_drop] at this
    exact ⟨by omega, by simp only [List.length_append, List.length_cons, List.length_nil]; omega⟩
theorem Done.fed {L : List Nat} {fs : List Fr} {z : Nat} (h : Done L fs z) : ∀ {gs : List Fr} {y : Nat} {c p : Int}, Fed (L.drop z) gs y c p → Fed L (fs ++ gs) (z + y) c p := by
  induction h with
  | zero => intro gs y c p hf; simpa using hf
  | @snoc fs z k s h n hd hr ih =>
    intro gs y c p hf
    rw [← List.drop_drop] at hf
    have := ih (Fed.next hr hf)
    rw [List.append_assoc, List.singleton_append, Nat.add_assoc]
    exact this
theorem Done.stop {L : List Nat} {fs : List Fr} {z : Nat} {c p : Int} (h : Done L fs z) (hr : readR (L.drop z) = .bad c p) : Fed L fs z c p := by
  have := h.fed (.stop hr)
  simpa using this
theorem Fed.app_bad {A : List Nat} {fs : List Fr} {z : Nat} {c p : Int} (B : List Nat) (h : Fed A fs z c p) (hc : c ≠ 30) : Fed (A ++ B) fs z c p := by
  induction h with
  | stop h => exact .stop (readR_app_bad B h hc)
  | @next L k s h n fs z c p hr hf ih =>
    obtain ⟨h1, h2, h3⟩ := readR_app_ok B hr
    have e : (L ++ B).drop (h + n) = L.drop (h + n) ++ B := by rw [List.drop_append_of_le_length h2]
    have e2 : ((L ++ B).drop h).take n = (L.drop h).take n := by
      rw [List.drop_append_of_le_length (by omega), List.take_append_of_le_length (by rw [List.length_drop]; omega)]
    have := Fed.next h1 (by rw [e]; exact ih hc)
    rw [e2] at this
    exact this
theorem Fed.app_short {A : List Nat} {fs : List Fr} {z : Nat} {c p : Int} (B : List Nat) (h : Fed A fs z c p) {gs : List Fr} {y : Nat} {c' p' : Int} : Fed (A.drop z ++ B) gs y c' p' → Fed (A ++ B) (fs ++ gs) (z + y) c' p' := by
  induction h with
  | stop h => intro h2; simpa using h2
  | @next L k s h n fs z c p hr hf ih =>
    intro h2'
    obtain ⟨h1, h2, h3⟩ := readR_app_ok B hr
    have e : (L ++ B).drop (h + n) = L.drop (h + n) ++ B := by rw [List.drop_append_of_le_length h2]
    have e2 : ((L ++ B).drop h).take n = (L.drop h).take n := by
      rw [List.drop_append_of_le_length (by omega), List.take_append_of_le_length (by rw [List.length_drop]; omega)]
    have := Fed.next h1 (by rw [e]; exact ih (by rw [List.drop_drop]; exact h2'))
    rw [e2] at this
    rw [List.cons_append, Nat.add_assoc]
    exact this
/-- A whole frame in front. -/
theorem readR_frL (k s : Nat) (D R : List Nat) (hk1 : 1 ≤ k) (hk2 : k ≤ 31) (hs : s ≤ 7) (hl : D.length ≤ 16384) : readR (frL k s D ++ R) = .ok k s (1 + (numL D.length).length) D.length := by
  have h6 := numL_six D.length (by omega)
  have hfl : frL k s D ++ R = (8 * k + s) :: (numL D.length ++ (D ++ R)) := by unfold frL; simp
  have hn := numP_numL (D ++ R) D.length 0 0 (by omega) (by omega) (by omega)
  unfold readR
  rw [hfl, headR_cons, if_neg (by omega), hn]
  simp only [headN, Nat.zero_add, Nat.mul_zero, Nat.pow_zero, Nat.mul_one]
  rw [if_neg (by omega)]
  simp only [List.length_cons, List.length_append]
  rw [if_neg (by omega)]
  congr 1 <;> omega
theorem frL_length (k s : Nat) (D : List Nat) : (frL k s D).length = 1 + (numL D.length).length + D.length := by unfold frL; simp; omega
/-- Frames as bytes. -/
def bytesOf : List Fr → List Nat
  | [] => []
  | f :: fs => frL f.k f.s f.d ++ bytesOf fs
def Fr.good (f : Fr) : Prop := 1 ≤ f.k ∧ f.k ≤ 31 ∧ f.s ≤ 7 ∧ f.d.length ≤ 16384
theorem bytesOf_append (a b : List Fr) : bytesOf (a ++ b) = bytesOf a ++ bytesOf b := by
  induction a with
  | nil => rfl
  | cons f fs ih => simp only [List.cons_append, bytesOf, ih, List.append_assoc]
theorem fed_bytesOf (fs : List Fr) (hg : ∀ f ∈ fs, f.good) (R : List Nat) {gs : List Fr} {z : Nat} {c p : Int} (h : Fed R gs z c p) : Fed (bytesOf fs ++ R) (fs ++ gs) ((bytesOf fs).length + z) c p := by
  induction fs with
  | nil => simpa [bytesOf] using h
  | cons f fs ih =>
    obtain ⟨g1, g2, g3, g4⟩ := hg f (by simp)
    have hr := readR_frL f.k f.s f.d (bytesOf fs ++ R) g1 g2 g3 g4
    have e : (frL f.k f.s f.d ++ (bytesOf fs ++ R)).drop (1 + (numL f.d.length).length + f.d.length) = bytesOf fs ++ R := by
      rw [← frL_length f.k f.s f.d]; exact List.drop_left
    have e2 : ((frL f.k f.s f.d ++ (bytesOf fs ++ R)).drop (1 + (numL f.d.length).length)).take f.d.length = f.d := by
      have e3 : frL f.k f.s f.d ++ (bytesOf fs ++ R) = ((8 * f.k + f.s) :: numL f.d.length) ++ (f.d ++ (bytesOf fs ++ R)) := by unfold frL; simp
      rw [e3, show 1 + (numL f.d.length).length = ((8 * f.k + f.s) :: numL f.d.length).length by simp; omega, List.drop_left, List.take_left]
    have := Fed.next hr (by rw [e]; exact ih (fun x hx => hg x (by simp [hx])))
    rw [e2] at this
    simp only [bytesOf, List.append_assoc, List.cons_append, List.length_append, frL_length]
    rw [Nat.add_assoc (_ + _ + _)]
    exact this
theorem fed_nil : Fed [] [] 0 30 0 := .stop readR_nil
theorem headR_bad_place {L : List Nat} {c p : Int} (h : headR L = .bad c p) : 0 ≤ p ∧ p ≤ (L.length : Int) := by
  cases L with
  | nil => rw [headR_nil] at h; injection h with h1 h2; simp; omega
  | cons x X =>
    rw [headR_cons] at h
    simp only [List.length_cons]
    split at h
    · injection h with h1 h2; omega
    · cases hn : numP X 0 0 with
      | bad d =>
        rw [hn] at h
        simp only [headN, HR.bad.injEq] at h
        obtain ⟨h1, h2⟩ := h
        split at h2 <;> omega
      | ok a b =>
        rw [hn] at h
        simp only [headN] at h
        split at h
        · injection h with h1 h2; omega
        · cases h
theorem readR_bad_place {L : List Nat} {c p : Int} (h : readR L = .bad c p) : 0 ≤ p ∧ p ≤ (L.length : Int) := by
  unfold readR at h
  cases hh : headR L with
  | bad c' p' =>
    rw [hh] at h
    simp only [HR.bad.injEq] at h
    obtain ⟨rfl, rfl⟩ := h
    exact headR_bad_place hh
  | ok k' s' h' n' =>
    rw [hh] at h
    simp only at h
    split at h
    · injection h with h1 h2; omega
    · cases h
theorem readR_bad_ne {L : List Nat} {c p : Int} (h : readR L = .bad c p) : c ≠ 0 := by
  unfold readR at h
  cases hh : headR L with
  | bad c' p' =>
    rw [hh] at h
    simp only [HR.bad.injEq] at h
    obtain ⟨rfl, rfl⟩ := h
    cases L with
    | nil => rw [headR_nil] at hh; injection hh with h1 h2; omega
    | cons x X =>
      rw [headR_cons] at hh
      split at hh
      · injection hh with h1 h2; omega
      · cases hn : numP X 0 0 with
        | bad d =>
          have := numP_bad_ne _ _ _ _ hn
          rw [hn] at hh
          simp only [headN, HR.bad.injEq] at hh
          omega
        | ok a b =>
          rw [hn] at hh
          simp only [headN] at hh
          split at hh
          · injection hh with h1 h2; omega
          · cases hh
  | ok k' s' h' n' =>
    rw [hh] at h
    simp only at h
    split at h
    · injection h with h1 h2; omega
    · cases h
theorem readR_max {L : List Nat} {k s h n : Nat} (hR : readR L = .ok k s h n) : n ≤ 16384 := by
  unfold readR at hR
  cases hh : headR L with
  | bad c p => rw [hh] at hR; cases hR
  | ok k' s' h' n' =>
    rw [hh] at hR
    simp only at hR
    split at hR
    · cases hR
    · injection hR with h1 h2 h3 h4
      have := (headR_ok hh).2.1
      omega
end Go.Proofs.YtpaijhmbfljfmaaDoor.Ga
