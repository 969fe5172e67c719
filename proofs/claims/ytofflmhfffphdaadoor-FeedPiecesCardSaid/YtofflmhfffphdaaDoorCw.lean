/- End and Text of the Reader at any state. -/
import Derived.Test.YtofflmhfffphdaaDoorCv
namespace Go.Proofs.YtofflmhfffphdaaDoor.Cv
set_option linter.unusedVariables false
set_option linter.unusedSimpArgs false
open Go.Proofs.YtofflmhfffphdaaDoor.Sm Go.Proofs.YtofflmhfffphdaaDoor.Cr Go.Proofs.YtofflmhfffphdaaDoor.Cv
theorem numP_max : ∀ (X : List Nat) (i n a k : Nat), numP X i n = .ok a k → a ≤ 1099511627776
  | [], i, n, a, k, h => by simp [numP] at h
  | x :: X, i, n, a, k, h => by
    unfold numP at h
    split at h
    · cases h
    · split at h
      · exact numP_max X _ _ _ _ h
      · split at h
        · cases h
        · rename_i hh
          simp only [NumR.ok.injEq] at h
          omega
theorem Rs.numV_max (s : Rs) (L : List Nat) : s.numV L ≤ 1099511627776 := by
  unfold Rs.numV
  split
  · split
    · rename_i h
      exact numP_max _ _ _ _ _ h
    · omega
  · omega
theorem Rs.num_at (s : Rs) (L : List Nat) (h : s.at_ ≤ L.length) : (s.num L).at_ ≤ L.length ∧ s.at_ ≤ (s.num L).at_ := by
  unfold Rs.num
  split
  · split
    · rename_i hn
      have := numP_fit _ _ _ _ _ hn
      rw [List.length_drop] at this
      simp only
      omega
    · exact ⟨h, Nat.le_refl _⟩
  · exact ⟨h, Nat.le_refl _⟩
/-- Text. -/
def Rs.mid (s : Rs) (L : List Nat) : Rs := if 4096 < s.numV L then ⟨(s.num L).at_, (s.at_ : Int), 2⟩ else s.num L
def Rs.pre (s : Rs) (L : List Nat) : Rs := (s.mid L).has L.length (s.numV L)
def Rs.text (s : Rs) (L : List Nat) : Rs := if (s.pre L).fe = 0 then ⟨(s.pre L).at_ + s.numV L, (s.pre L).fa, (s.pre L).fe⟩ else ⟨s.at_, (s.pre L).fa, (s.pre L).fe⟩
def Rs.textV (s : Rs) (L : List Nat) : List Nat := if (s.pre L).fe = 0 then (L.drop (s.num L).at_).take (s.numV L) else []
theorem Rs.pre_at (s : Rs) (L : List Nat) : (s.pre L).at_ = (s.num L).at_ := by
  unfold Rs.pre Rs.has Rs.mid
  split <;> split <;> rfl
theorem Rs.pre_nil (s : Rs) (L : List Nat) (h : L = []) : (s.pre L).fe ≠ 0 := by
  subst h
  have h2 : (s.num []).fe ≠ 0 := by
    unfold Rs.num
    by_cases h0 : s.fe = 0
    · rw [if_pos h0]; simp [numP]
    · rw [if_neg h0]; exact h0
  have h3 : (s.mid []).fe ≠ 0 := by
    unfold Rs.mid
    split
    · simp
    · exact h2
  unfold Rs.pre Rs.has
  rw [if_neg (fun h => h3 h.1)]
  exact h3
theorem Rs.pre_fits (s : Rs) (L : List Nat) (h : (s.pre L).fe = 0) : (s.num L).at_ + s.numV L ≤ L.length ∧ s.numV L ≤ 4096 := by
  unfold Rs.pre Rs.has at h
  by_cases hb : 4096 < s.numV L
  · unfold Rs.mid at h
    rw [if_pos hb] at h
    simp at h
  · have e : s.mid L = s.num L := by unfold Rs.mid; rw [if_neg hb]
    rw [e] at h
    by_cases hc : (s.num L).fe = 0 ∧ L.length < (s.num L).at_ + s.numV L
    · rw [if_pos hc] at h; simp at h
    · rw [if_neg hc] at h
      exact ⟨by omega, by omega⟩
end Go.Proofs.YtofflmhfffphdaaDoor.Cv
namespace Go.Proofs.YtofflmhfffphdaaDoor.Cw
set_option linter.unusedVariables false
set_option linter.unusedSimpArgs false
set_option maxRecDepth 100000
open Go.ChangeShapes Go.WideShapes Go.ChangeAt Go.RowKit
open Go.Proofs.YtofflmhfffphdaaDoor.Wu Go.Proofs.YtofflmhfffphdaaDoor.Sm Go.Proofs.YtofflmhfffphdaaDoor.Sh Go.Proofs.YtofflmhfffphdaaDoor.Ba Go.Proofs.YtofflmhfffphdaaDoor.Bp Go.Proofs.YtofflmhfffphdaaDoor.Bq Go.Proofs.YtofflmhfffphdaaDoor.Cm Go.Proofs.YtofflmhfffphdaaDoor.Cn Go.Proofs.YtofflmhfffphdaaDoor.Cr Go.Proofs.YtofflmhfffphdaaDoor.Cs Go.Proofs.YtofflmhfffphdaaDoor.Rk Go.Proofs.YtofflmhfffphdaaDoor.Ct Go.Proofs.YtofflmhfffphdaaDoor.Er Go.Proofs.YtofflmhfffphdaaDoor.Eu Go.Proofs.YtofflmhfffphdaaDoor.Cv
attribute [local go_sem] kUpon_value kUpon_skip kUpon_enter
/-- What End leaves: the error, and the reader. -/
def EndP (w : World) (g : Nat) (a : Option Addr) (m c : Nat) (s : Rs) (e : Ending) (w' : World) : Prop := ∃ v, e = .returned v ∧ (s.fe = 0 ∧ v = .nilIface ∨ s.fe ≠ 0 ∧ ∃ b, w.heap.size ≤ b ∧ v = .iface 95 (.pointer (some ⟨b, 0, none⟩)) ∧ w'.heap[b]? = some (.cells #[.int .i64 s.fa, .int .i64 s.fe] 42 (0, 0))) ∧ RdS w' g a m c s ∧ w.grownBy w' (some g)
theorem grown_below {w w1 w2 : World} {k : Option Nat} (h1 : w.grownBy w1 k) (h2 : Below w1.heap.size w1 w2) : w.grownBy w2 k :=
  ⟨h2.os.trans h1.os, h2.tape.trans h1.tape, h2.output.trans h1.output, Nat.le_trans h1.size h2.size, fun b hb hne => (h2.block b (Nat.lt_of_lt_of_le hb h1.size)).trans (h1.block b hb hne)⟩
theorem below_grown {w w1 : World} (h : Below w.heap.size w w1) (k : Option Nat) : w.grownBy w1 k := ⟨h.os, h.tape, h.output, h.size, fun b hb _ => h.block b hb⟩
theorem EndP.isErr {w w' : World} {g : Nat} {a : Option Addr} {m c : Nat} {s : Rs} {e : Ending} (h : EndP w g a m c s e w') : ∃ v, e = .returned v ∧ IsErr w' v s.fe (if s.fe = 0 then -1 else s.fa) ∧ RdS w' g a m c s ∧ w.grownBy w' (some g) := by
  obtain ⟨v, h1, h2, h3⟩ := h
  refine ⟨v, h1, ?_, h3⟩
  rcases h2 with ⟨h4, h5⟩ | ⟨h4, b, _, h5, h6⟩
  · rw [if_pos h4]; exact .inl ⟨h5, h4, rfl⟩
  · rw [if_neg h4]; exact .inr (.inr ⟨_, _, _, h5, h6⟩)
theorem some_nil (ad : Addr) (m c : Nat) (u : World) : Sem.run Tryd.prog (binOp BinOp.eql 31 (.slice (some ad) m c) (.slice none 0 0)) u = .ok (.bool false) u := by kernel_rfl
/-- bytes.Clone of what is not nil. -/
theorem clone_some (ad : Addr) (m c : Nat) (L : List Nat) (w : World) (hs : SrcB w (some ad) m L) (hm : m ≤ 70368744177664) :
    Calls Tryd.prog 54 #[.slice (some ad) m c] w fun e w' => ∃ g cap, e = .returned (.slice (some ⟨g, 0, none⟩) m cap) ∧ w.heap.size ≤ g ∧ Dst w' g m cap L ∧ Below w.heap.size w w' := by
  have HS := hide (hs.below (below_new w (.cells #[] 5)))
  clear hs
  have HD0 : Hid (Dst (w.alloc (.cells #[] 5)) w.heap.size 0 0 []) := hide (dst_new w [] #[] 5 (0, 0) rfl (by intro x hx; cases hx) (by simp [maxLen]))
  have HN := hide (some_nil ad m c w)
  go_enter Tryd.func54, Tryd.ntmps54
  go_wp2_with fail
  rw [HN.out]
  go_wp2_with (refine wpList_append_dst rfl _ _ rfl w.heap.size 0 0 [] (some ad) m c L rfl rfl HD0.out HS.out (by omega) (fun h => by cases h) ?_)
  intro g cap w2 HD HG hgg HK
  refine of_hid ?_
  have hg : w.heap.size ≤ g := by
    rcases hgg with h | h
    · omega
    · omega
  have hb0 := below_new w (.cells #[] 5)
  have HB := hide (belowG hb0 HG.out (Nat.le_refl _) hb0.size)
  clear hb0
  go_wp2
  go_ret
  exact ⟨g, cap, rfl, hg, HD.out, HB.out⟩
def TextP (w : World) (g : Nat) (a : Option Addr) (m c : Nat) (s : Rs) (D : List Nat) (e : Ending) (w' : World) : Prop :=
  ∃ v, e = .returned v ∧ (s.fe ≠ 0 ∧ v = .slice none 0 0 ∧ D = [] ∨ s.fe = 0 ∧ ∃ b cap, v = .slice (some ⟨b, 0, none⟩) D.length cap ∧ w.heap.size ≤ b ∧ Dst w' b D.length cap D) ∧ RdS w' g a m c s ∧ w.grownBy w' (some g)
theorem src_kept {w w' : World} {a : Option Addr} {m g : Nat} {L : List Nat} (h : SrcB w a m L) (hg : w.grownBy w' (some g)) (hga : ∀ ad, a = some ad → 0 < m → ad.block ≠ g) : SrcB w' a m L := by
  obtain ⟨hl, h8, b, off, ha, hc⟩ := h
  refine ⟨hl, h8, b, off, ha, fun i hi => ?_⟩
  have e := ha (by omega)
  rw [World.cell?_of_block (a := ⟨b, off + i, none⟩) (hg.block b (cell_lt (hc i hi)) (fun e' => hga _ e (by omega) (by injection e')))]
  exact hc i hi
theorem src_mid {w : World} {a : Option Addr} {m : Nat} {L : List Nat} (h : SrcB w a m L) (i n : Nat) (hi : i + n ≤ m) : SrcB w (a.map (·.add i)) n ((L.drop i).take n) := by
  obtain ⟨hl, h8, b, off, ha, hc⟩ := h
  refine ⟨by rw [List.length_take, List.length_drop]; omega, all8_take (all8_drop h8 _) _, b, off + i, fun h0 => ?_, fun j hj => ?_⟩
  · rw [ha (by omega)]; simp [Addr.add_mid]
  · rw [Nat.add_assoc, hc (i + j) (by omega)]
    simp only [List.getD, List.getElem?_take_of_lt hj, List.getElem?_drop]
end Go.Proofs.YtofflmhfffphdaaDoor.Cw
