/- slot: plainly: what entering and leaving make of how many are where. -/
import Derived.Test.YtlhjkacdhfchiaaXb
namespace Go.Proofs.Ytlhjkacdhfchiaa.Xm
set_option linter.unusedVariables false
set_option linter.unusedSimpArgs false
open Go.Proofs.Ytlhjkacdhfchiaa.Xb
abbrev Once (L : List Sl) : Prop := L.Pairwise (fun a b => a.1 ≠ b.1)
theorem placed_iff {L : List Sl} {who : Int} : placed L who = true ↔ ∃ u ∈ L, u.1 = who := by
  unfold placed
  rw [List.any_eq_true]
  simp [isWho]
theorem placed_false_iff {L : List Sl} {who : Int} : placed L who = false ↔ ∀ u ∈ L, u.1 ≠ who := by
  unfold placed
  rw [List.any_eq_false]
  simp [isWho]
theorem filter_len {L : List Sl} {who : Int} (ho : Once L) (hp : placed L who = true) : (L.filter (fun u => !isWho who u)).length + 1 = L.length := by
  induction L with
  | nil => simp [placed] at hp
  | cons a L ih =>
    obtain ⟨h1, h2⟩ := List.pairwise_cons.1 ho
    by_cases he : a.1 = who
    · rw [List.filter_cons_of_neg (by simp [isWho, he])]
      have : L.filter (fun u => !isWho who u) = L := List.filter_eq_self.2 (fun x hx => by
        have := h1 x hx
        rw [he] at this
        simp [isWho, Ne.symm this])
      rw [this, List.length_cons]
    · rw [List.filter_cons_of_pos (by simp [isWho, he]), List.length_cons, List.length_cons]
      have : placed L who = true := by
        obtain ⟨u, hu, e⟩ := placed_iff.1 hp
        rcases List.mem_cons.1 hu with rfl | hu
        · exact absurd e he
        · exact placed_iff.2 ⟨u, hu, e⟩
      rw [ih h2 this]
theorem filter_gone (L : List Sl) (who : Int) : placed (L.filter (fun u => !isWho who u)) who = false := by
  rw [placed_false_iff]
  intro u hu e
  have := (List.mem_filter.1 hu).2
  simp [isWho, e] at this
theorem cnt_all {nm : ByteArray} {L : List Sl} (h : ∀ u ∈ L, isIn nm u = true) : cnt nm L = L.length := by
  unfold cnt
  rw [List.countP_eq_length]
  exact h
theorem cnt_snoc (nm : ByteArray) (L : List Sl) (u : Sl) : cnt nm (L ++ [u]) = cnt nm L + if isIn nm u then 1 else 0 := by
  unfold cnt
  rw [List.countP_append, List.countP_singleton]
/-- Of one module alone. -/
structure All1 (nm : ByteArray) (slots : Int) (L : List Sl) : Prop where
  all : ∀ u ∈ L, isIn nm u = true
  few : (L.length : Int) ≤ slots
theorem All1.enter {nm : ByteArray} {slots : Int} {L : List Sl} (h : All1 nm slots L) (who : Int) : All1 nm slots (enterF L who nm slots).2 := by
  unfold enterF
  split
  · exact h
  · split
    · exact h
    · rename_i h2
      rw [cnt_all h.all] at h2
      refine ⟨fun u hu => ?_, by rw [List.length_append, List.length_singleton]; omega⟩
      rcases List.mem_append.1 hu with hu | hu
      · exact h.all u hu
      · rw [List.mem_singleton.1 hu]
        simp [isIn]
theorem All1.leave {nm : ByteArray} {slots : Int} {L : List Sl} (h : All1 nm slots L) (who : Int) : All1 nm slots (leaveF L who).2 := by
  unfold leaveF
  split
  · refine ⟨fun u hu => h.all u (List.mem_filter.1 hu).1, ?_⟩
    have := List.length_filter_le (fun u => !isWho who u) L
    have := h.few
    simp only
    omega
  · exact h
theorem All1.again {nm : ByteArray} {slots : Int} {L : List Sl} (h : All1 nm slots L) (ho : Once L) {who : Int} (hp : placed L who = true) : (leaveF L who).1 = 0 ∧ ((cnt nm (leaveF L who).2 : Nat) : Int) = ((cnt nm L : Nat) : Int) - 1 ∧ (enterF (leaveF L who).2 who nm slots).1 = 0 := by
  have hl := h.leave who
  have hf := filter_len ho hp
  have hg := filter_gone L who
  have e : leaveF L who = (0, L.filter (fun u => !isWho who u)) := by unfold leaveF; rw [if_pos hp]
  rw [e] at hl ⊢
  simp only at hl ⊢
  have c1 := cnt_all h.all
  have c2 := cnt_all hl.all
  have := h.few
  refine ⟨trivial, by rw [c1, c2]; omega, ?_⟩
  unfold enterF
  rw [if_neg (by rw [hg]; simp), if_neg (by rw [c2]; omega)]
/-- Two modules side by side, behind i rounds. -/
structure Two (a b c : ByteArray) (slots : Nat) (i : Nat) (L : List Sl) : Prop where
  who : ∀ u ∈ L, (0 ≤ u.1 ∧ u.1 < (i : Int)) ∨ (1000 ≤ u.1 ∧ u.1 < 1000 + (i : Int))
  ca : cnt a L = min i slots
  cb : cnt b L = i
  cc : cnt c L = 0
  len : L.length = min i slots + i
theorem Two.step {a b c : ByteArray} {slots i : Nat} {L : List Sl} (h : Two a b c slots i L) (hi : i < 30) (hab : isIn a (0, b) = false ∧ isIn b (0, a) = false ∧ isIn c (0, a) = false ∧ isIn c (0, b) = false) :
    ∃ L1 L2, enterF L (i : Int) a (slots : Int) = ((if i < slots then 0 else 150), L1) ∧ enterF L1 (1000 + (i : Int)) b 100 = (0, L2) ∧ enterF L2 (2000 + (i : Int)) c 0 = (150, L2) ∧ L1.length ≤ 100 ∧ L2.length ≤ 100 ∧ Two a b c slots (i + 1) L2 := by
  obtain ⟨h1, h2, h3, h4⟩ := hab
  have aa : ∀ n : Int, isIn a (n, a) = true := fun n => by simp [isIn]
  have bb : ∀ n : Int, isIn b (n, b) = true := fun n => by simp [isIn]
  have h1' : ∀ n : Int, isIn a (n, b) = false := fun n => h1
  have h2' : ∀ n : Int, isIn b (n, a) = false := fun n => h2
  have h3' : ∀ n : Int, isIn c (n, a) = false := fun n => h3
  have h4' : ∀ n : Int, isIn c (n, b) = false := fun n => h4
  have p1 : placed L (i : Int) = false := placed_false_iff.2 fun u hu => by
    have := h.who u hu
    omega
  have g : ∃ L1, enterF L (i : Int) a (slots : Int) = ((if i < slots then 0 else 150), L1) ∧ (∀ u ∈ L1, (0 ≤ u.1 ∧ u.1 < (i : Int) + 1) ∨ (1000 ≤ u.1 ∧ u.1 < 1000 + (i : Int))) ∧ cnt a L1 = min (i + 1) slots ∧ cnt b L1 = i ∧ cnt c L1 = 0 ∧ L1.length = min (i + 1) slots + i := by
    unfold enterF
    rw [if_neg (by rw [p1]; simp), h.ca]
    by_cases hs : i < slots
    · rw [if_neg (by omega), if_pos hs]
      refine ⟨_, rfl, fun u hu => ?_, ?_, ?_, ?_, ?_⟩
      · rcases List.mem_append.1 hu with hu | hu
        · have := h.who u hu; omega
        · rw [List.mem_singleton.1 hu]; simp only; omega
      · rw [cnt_snoc, aa, h.ca, if_pos rfl]; omega
      · rw [cnt_snoc, h2', h.cb]; simp
      · rw [cnt_snoc, h3', h.cc]; simp
      · rw [List.length_append, h.len, List.length_singleton]; omega
    · rw [if_pos (by omega), if_neg hs]
      refine ⟨_, rfl, fun u hu => ?_, ?_, h.cb, h.cc, ?_⟩
      · have := h.who u hu; omega
      · rw [h.ca]; omega
      · rw [h.len]; omega
  obtain ⟨L1, e1, w1, ca1, cb1, cc1, l1⟩ := g
  have p2 : placed L1 (1000 + (i : Int)) = false := placed_false_iff.2 fun u hu => by
    have := w1 u hu
    omega
  have e2 : enterF L1 (1000 + (i : Int)) b 100 = (0, L1 ++ [(1000 + (i : Int), b)]) := by
    unfold enterF
    rw [if_neg (by rw [p2]; simp), if_neg (by rw [cb1]; omega)]
  have w2 : ∀ u ∈ L1 ++ [((1000 + (i : Int), b) : Sl)], (0 ≤ u.1 ∧ u.1 < (i : Int) + 1) ∨ (1000 ≤ u.1 ∧ u.1 < 1000 + ((i : Int) + 1)) := fun u hu => by
    rcases List.mem_append.1 hu with hu | hu
    · have := w1 u hu; omega
    · rw [List.mem_singleton.1 hu]; simp only; omega
  have p3 : placed (L1 ++ [((1000 + (i : Int), b) : Sl)]) (2000 + (i : Int)) = false := placed_false_iff.2 fun u hu => by
    have := w2 u hu
    omega
  have e3 : enterF (L1 ++ [((1000 + (i : Int), b) : Sl)]) (2000 + (i : Int)) c 0 = (150, L1 ++ [((1000 + (i : Int), b) : Sl)]) := by
    unfold enterF
    rw [if_neg (by rw [p3]; simp), if_pos (by omega)]
  refine ⟨L1, L1 ++ [(1000 + (i : Int), b)], e1, e2, e3, by omega, by rw [List.length_append, l1, List.length_singleton]; omega, fun u hu => ?_, ?_, ?_, ?_, ?_⟩
  · have := w2 u hu; omega
  · rw [cnt_snoc, h1', ca1]; simp
  · rw [cnt_snoc, bb, cb1]; simp
  · rw [cnt_snoc, h4', cc1]; simp
  · rw [List.length_append, l1, List.length_singleton]; omega
end Go.Proofs.Ytlhjkacdhfchiaa.Xm
