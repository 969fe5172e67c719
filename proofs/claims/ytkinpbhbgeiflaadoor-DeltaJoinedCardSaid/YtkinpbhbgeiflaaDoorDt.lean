/- What delta.Make tells, plainly: no two tokens that could be one; a file's own blocks, or blocks in any order. -/
import Derived.Test.YtkinpbhbgeiflaaDoorQi
import Derived.Test.YtkinpbhbgeiflaaDoorQg
namespace Go.Proofs.YtkinpbhbgeiflaaDoor.Dt
set_option linter.unusedVariables false
set_option linter.unusedSimpArgs false
open Go.Proofs.YtkinpbhbgeiflaaDoor.Sm Go.Proofs.YtkinpbhbgeiflaaDoor.Sh Go.Proofs.YtkinpbhbgeiflaaDoor.Ba Go.Proofs.YtkinpbhbgeiflaaDoor.Bp Go.Proofs.YtkinpbhbgeiflaaDoor.Ka Go.Proofs.YtkinpbhbgeiflaaDoor.Ke Go.Proofs.YtkinpbhbgeiflaaDoor.Kk Go.Proofs.YtkinpbhbgeiflaaDoor.Kl Go.Proofs.YtkinpbhbgeiflaaDoor.Ko Go.Proofs.YtkinpbhbgeiflaaDoor.Ku Go.Proofs.YtkinpbhbgeiflaaDoor.Da Go.Proofs.YtkinpbhbgeiflaaDoor.Db Go.Proofs.YtkinpbhbgeiflaaDoor.Dk
open Go.Proofs.YtkinpbhbgeiflaaDoor.Su (cutL)
/-- Blocks alone, and how many. -/
def sumC : List Tok → Int
  | [] => 0
  | t :: ts => t.c + sumC ts
theorem sumC_append (a b : List Tok) : sumC (a ++ b) = sumC a + sumC b := by
  induction a with
  | nil => simp [sumC]
  | cons t ts ih => simp only [List.cons_append, sumC, ih]; omega
def Blks (ts : List Tok) : Prop := ∀ t ∈ ts, t.d = [] ∧ 1 ≤ t.c
theorem fuse_blk {l x : Tok} (hl : l.d = []) (hx : x.d = []) : fuse l x = none ∨ fuse l x = some ⟨l.f, l.c + x.c, l.d⟩ := by
  unfold fuse
  rw [if_neg (by simp [Tok.isB, hl])]
  split
  · exact .inr rfl
  · exact .inl rfl
theorem joinT_blk {ts : List Tok} {x : Tok} (h : Blks ts) (hx : x.d = [] ∧ 1 ≤ x.c) : Blks (joinT ts x) ∧ sumC (joinT ts x) = sumC ts + x.c := by
  rcases List.eq_nil_or_concat ts with rfl | ⟨us, l, rfl⟩
  · refine ⟨fun t ht => ?_, by simp [joinT, sumC]⟩
    rw [joinT_nil, List.mem_singleton] at ht
    rw [ht]; exact hx
  · rw [List.concat_eq_append] at h ⊢
    have hl := h l (by simp)
    rw [joinT_snoc]
    rcases fuse_blk hl.1 hx.1 with e | e
    · rw [e]
      refine ⟨fun t ht => ?_, ?_⟩
      · simp only [List.mem_append, List.mem_cons, List.not_mem_nil, or_false] at ht
        rcases ht with ht | rfl | rfl
        · exact h t (List.mem_append_left _ ht)
        · exact hl
        · exact hx
      · simp only [sumC_append, sumC]; omega
    · rw [e]
      refine ⟨fun t ht => ?_, ?_⟩
      · rcases List.mem_append.1 ht with ht | ht
        · exact h t (List.mem_append_left _ ht)
        · rw [List.mem_singleton.1 ht]
          exact ⟨hl.1, by simp only; omega⟩
      · simp only [sumC_append, sumC]; omega
theorem isIt_own {D : List Nat} {s k n l i : Nat} (hl : D.length = l) (hi : i < n) : ∃ j, fdOf s k l (mkB D s k n) (piece D s i) = some j := by
  obtain ⟨p, hp, _⟩ := own_found D s l k n i hi
  have hlen : (piece D s i).length = min s (l - i * s) := by unfold piece; rw [List.length_take, List.length_drop, hl]
  unfold fdOf
  rw [mkB_length, hlen]
  have e : (⟨wkN (piece D s i), cutL k (sha (piece D s i))⟩ : Blk) = blkOf k (piece D s i) := rfl
  rw [e, hp]
  exact ⟨_, rfl⟩
theorem cnt_ge {l s n : Nat} (hs : 1 ≤ s) (hn : cntZ l s = (n : Int)) : l ≤ n * s := by
  unfold cntZ at hn
  rw [if_neg (by omega)] at hn
  have h1 := Int.mul_ediv_add_emod (l : Int) (s : Int)
  have h2 := Int.emod_lt_of_pos (l : Int) (show (0 : Int) < (s : Int) by omega)
  have h3 := Int.emod_nonneg (l : Int) (show (s : Int) ≠ 0 by omega)
  have e : ((n * s : Nat) : Int) = (n : Int) * (s : Int) := by simp
  generalize (l : Int) / (s : Int) = q at *
  generalize (l : Int) % (s : Int) = r at *
  have : (l : Int) ≤ (n : Int) * (s : Int) := by
    split at hn
    · rw [← hn, Int.add_mul, Int.mul_comm q, Int.one_mul]; omega
    · rw [← hn, Int.mul_comm q]; omega
  omega
/-- A file told by its own sums: its blocks. -/
theorem own_told {D : List Nat} {s k n l : Nat} (hs : 1 ≤ s) (hl : D.length = l) (hn : cntZ l s = (n : Int)) : ∀ (j i f : Nat) (ts : List Tok), i + j = n → (D.drop (i * s)).length ≤ f → Blks ts → Blks (mkT (fdOf s k l (mkB D s k n)) s f (D.drop (i * s)) ts) ∧ sumC (mkT (fdOf s k l (mkB D s k n)) s f (D.drop (i * s)) ts) = sumC ts + j
  | 0, i, f, ts, hij, hf, hb => by
    obtain rfl : i = n := by omega
    have := cnt_ge hs hn
    rw [List.drop_of_length_le (by omega), mkT_nil]
    exact ⟨hb, by simp⟩
  | j + 1, i, f, ts, hij, hf, hb => by
    have hlt := Kf.cnt_lt (m := l) (s := s) (i := i) (by omega) (by omega) (by omega) (by rw [hn]; omega)
    have e0 : (i : Int) * (s : Int) = ((i * s : Nat) : Int) := by simp
    rw [e0] at hlt
    have hne : D.drop (i * s) ≠ [] := fun e => by
      have := congrArg List.length e
      rw [List.length_drop, List.length_nil] at this
      omega
    have hpos := List.length_pos_iff.2 hne
    obtain ⟨f, rfl⟩ : ∃ f', f = f' + 1 := ⟨f - 1, by omega⟩
    obtain ⟨x, hx⟩ := isIt_own (s := s) (k := k) (n := n) hl (show i < n by omega)
    have e1 : (D.drop (i * s)).drop s = D.drop ((i + 1) * s) := by rw [List.drop_drop]; congr 1; rw [Nat.add_mul, Nat.one_mul]
    rw [mkT_some hne hx, e1]
    obtain ⟨h1, h2⟩ := joinT_blk hb (x := ⟨(x : Int), 1, []⟩) ⟨rfl, Int.le_refl _⟩
    have ih := own_told (k := k) hs hl hn j (i + 1) f (joinT ts ⟨(x : Int), 1, []⟩) (by omega) (by
      rw [← e1, List.length_drop]; omega) h1
    refine ⟨ih.1, ?_⟩
    rw [ih.2, h2]
    show sumC ts + 1 + (j : Int) = sumC ts + ((j + 1 : Nat) : Int)
    omega
/-- Whole blocks in any order. -/
theorem some_told {fd : List Nat → Option Nat} {s : Nat} (hs : 1 ≤ s) : ∀ (Ps : List (List Nat)) (f : Nat) (ts : List Tok), (∀ P ∈ Ps, P.length = s ∧ ∃ i, fd P = some i) → Ps.flatten.length ≤ f → Blks ts → Blks (mkT fd s f Ps.flatten ts) ∧ sumC (mkT fd s f Ps.flatten ts) = sumC ts + Ps.length
  | [], f, ts, _, _, hb => by
    rw [List.flatten_nil, mkT_nil]
    exact ⟨hb, by simp⟩
  | P :: Ps, f, ts, hP, hf, hb => by
    obtain ⟨hl, i, hi⟩ := hP P (by simp)
    have hne : P ++ Ps.flatten ≠ [] := fun e => by
      have := congrArg List.length e
      rw [List.length_append, List.length_nil] at this
      omega
    rw [List.flatten_cons] at hf ⊢
    rw [List.length_append] at hf
    obtain ⟨f, rfl⟩ : ∃ f', f = f' + 1 := ⟨f - 1, by omega⟩
    have ht : (P ++ Ps.flatten).take s = P := by rw [← hl, List.take_left]
    have hd : (P ++ Ps.flatten).drop s = Ps.flatten := by rw [← hl, List.drop_left]
    rw [mkT_some hne (by rw [ht]; exact hi), hd]
    obtain ⟨h1, h2⟩ := joinT_blk hb (x := ⟨(i : Int), 1, []⟩) ⟨rfl, Int.le_refl _⟩
    have ih := some_told hs Ps f (joinT ts ⟨(i : Int), 1, []⟩) (fun Q hQ => hP Q (by simp [hQ])) (by omega) h1
    refine ⟨ih.1, ?_⟩
    rw [ih.2, h2, List.length_cons]
    show sumC ts + 1 + (Ps.length : Int) = sumC ts + ((Ps.length + 1 : Nat) : Int)
    omega
/-- No two that could be one stand side by side; blocks are ones that there are. -/
def Adj (ts : List Tok) : Prop := ∀ i a b, ts[i]? = some a → ts[i + 1]? = some b → fuse a b = none
def Bnd (m : Nat) (t : Tok) : Prop := 0 < t.c → t.f + t.c ≤ (m : Int)
theorem fuse_none_iff {a b : Tok} (ha : a.wf) (hb : b.wf) : fuse a b = none ↔ ¬ (0 < b.c ∧ 0 < a.c ∧ a.f + a.c = b.f) ∧ ¬ (b.c = 0 ∧ a.c = 0) := by
  rw [fuse_ref ha hb]
  by_cases h1 : 0 < b.c ∧ 0 < a.c ∧ a.f + a.c = b.f
  · rw [if_pos h1]; simp [h1]
  · rw [if_neg h1]
    by_cases h2 : b.c = 0 ∧ a.c = 0
    · rw [if_pos h2]; simp [h2]
    · rw [if_neg h2]; simp [h1, h2]
theorem joinT_adj {ts : List Tok} {x : Tok} {m : Nat} (h : Adj ts) (hw : ∀ t ∈ ts, t.wf) (hx : x.wf) (hb : ∀ t ∈ ts, Bnd m t) (hxb : Bnd m x) : Adj (joinT ts x) ∧ ∀ t ∈ joinT ts x, Bnd m t := by
  rcases List.eq_nil_or_concat ts with rfl | ⟨us, l, rfl⟩
  · refine ⟨fun i a b h1 h2 => ?_, fun t ht => ?_⟩
    · rw [joinT_nil] at h2
      simp at h2
    · rw [joinT_nil, List.mem_singleton] at ht
      rw [ht]; exact hxb
  · rw [List.concat_eq_append] at *
    have hl := hw l (by simp)
    have hlb := hb l (by simp)
    rw [joinT_snoc]
    cases hf : fuse l x with
    | none =>
      refine ⟨fun i a b h1 h2 => ?_, fun t ht => ?_⟩
      · have e : us ++ [l, x] = (us ++ [l]) ++ [x] := by simp
        rw [e] at h1 h2
        by_cases hi : i + 1 < (us ++ [l]).length
        · rw [List.getElem?_append_left (by omega)] at h1 h2
          exact h i a b h1 h2
        · have hb2 := (List.getElem?_eq_some_iff.1 h2).1
          rw [List.length_append, List.length_singleton] at hb2
          have hi2 : i + 1 = (us ++ [l]).length := by omega
          rw [hi2, List.getElem?_append_right (Nat.le_refl _), Nat.sub_self] at h2
          simp at h2 hi2
          subst h2
          rw [hi2] at h1
          simp at h1
          subst h1
          exact hf
      · simp only [List.mem_append, List.mem_cons, List.not_mem_nil, or_false] at ht
        rcases ht with ht | rfl | rfl
        · exact hb t (List.mem_append_left _ ht)
        · exact hlb
        · exact hxb
    | some y =>
      have hy := fuse_wf hl hx hf
      have hyl : (0 < y.c ↔ 0 < l.c) ∧ (y.c = 0 ↔ l.c = 0) ∧ y.f = l.f ∧ Bnd m y := by
        rw [fuse_ref hl hx] at hf
        split at hf
        · rename_i h1
          injection hf with hf
          subst hf
          refine ⟨by simp only; omega, by simp only; omega, rfl, fun _ => ?_⟩
          have := hxb h1.1
          simp only
          omega
        · split at hf
          · rename_i h1 h2
            injection hf with hf
            subst hf
            exact ⟨Iff.rfl, Iff.rfl, rfl, fun h => by simp only at h; omega⟩
          · cases hf
      refine ⟨fun i a b h1 h2 => ?_, fun t ht => ?_⟩
      · by_cases hi : i + 1 < us.length
        · rw [List.getElem?_append_left (by omega)] at h1 h2
          exact h i a b (by rw [List.getElem?_append_left (by omega)]; exact h1) (by rw [List.getElem?_append_left (by omega)]; exact h2)
        · have hb2 := (List.getElem?_eq_some_iff.1 h2).1
          rw [List.length_append, List.length_singleton] at hb2
          have hi2 : i + 1 = us.length := by omega
          have h0 : fuse a l = none := by
            refine h i a l ?_ ?_
            · rw [List.getElem?_append_left (by omega)] at h1 ⊢
              exact h1
            · rw [hi2]; simp
          rw [hi2] at h2
          simp at h2
          subst h2
          have haw : a.wf := by
            rw [List.getElem?_append_left (by omega)] at h1
            exact hw a (List.mem_append_left _ (List.mem_of_getElem? h1))
          rw [fuse_none_iff haw hl] at h0
          rw [fuse_none_iff haw hy]
          obtain ⟨e1, e2, e3, _⟩ := hyl
          rw [e1, e2, e3]
          exact h0
      · rcases List.mem_append.1 ht with ht | ht
        · exact hb t (List.mem_append_left _ ht)
        · rw [List.mem_singleton.1 ht]; exact hyl.2.2.2
theorem mkT_adj {fd : List Nat → Option Nat} {s m : Nat} (hm : m ≤ 4096) (hfd : ∀ P i, fd P = some i → i < m) : ∀ (f : Nat) (R : List Nat) (ts : List Tok), All8 R → Adj ts → (∀ t ∈ ts, t.wf) → (∀ t ∈ ts, Bnd m t) → Adj (mkT fd s f R ts) ∧ ∀ t ∈ mkT fd s f R ts, Bnd m t
  | 0, R, ts, _, h, _, hb => ⟨h, hb⟩
  | f + 1, R, ts, h8, h, hw, hb => by
    by_cases hR : R = []
    · rw [mkT, if_pos hR]; exact ⟨h, hb⟩
    · cases hf : fd (R.take s) with
      | none =>
        rw [mkT_none hR hf]
        obtain ⟨h1, h2⟩ := joinT_adj (m := m) h hw (wf_one h8 hR) hb (fun h => by simp only at h; omega)
        exact mkT_adj hm hfd f _ _ (all8_drop h8 1) h1 (joinT_wf hw (wf_one h8 hR)) h2
      | some i =>
        rw [mkT_some hR hf]
        have hi := hfd _ _ hf
        obtain ⟨h1, h2⟩ := joinT_adj (m := m) h hw (wf_blk (show i < 4096 by omega)) hb (fun _ => by simp only; omega)
        exact mkT_adj hm hfd f _ _ (all8_drop h8 s) h1 (joinT_wf hw (wf_blk (by omega))) h2
end Go.Proofs.YtkinpbhbgeiflaaDoor.Dt
