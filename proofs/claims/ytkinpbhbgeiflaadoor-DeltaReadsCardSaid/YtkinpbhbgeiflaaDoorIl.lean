/- code.Text on no bytes. -/
import Derived.Test.YtkinpbhbgeiflaaDoorIk
namespace Go.Proofs.YtkinpbhbgeiflaaDoor.Il
set_option linter.unusedVariables false
set_option linter.unusedSimpArgs false
set_option maxRecDepth 100000
open Go.ChangeShapes Go.WideShapes Go.ChangeAt Go.RowKit
open Go.Proofs.YtkinpbhbgeiflaaDoor.Wu Go.Proofs.YtkinpbhbgeiflaaDoor.Sm Go.Proofs.YtkinpbhbgeiflaaDoor.Sh Go.Proofs.YtkinpbhbgeiflaaDoor.Ba Go.Proofs.YtkinpbhbgeiflaaDoor.Bp Go.Proofs.YtkinpbhbgeiflaaDoor.Bq Go.Proofs.YtkinpbhbgeiflaaDoor.Bz Go.Proofs.YtkinpbhbgeiflaaDoor.Is Go.Proofs.YtkinpbhbgeiflaaDoor.Ig Go.Proofs.YtkinpbhbgeiflaaDoor.Ih Go.Proofs.YtkinpbhbgeiflaaDoor.Ij Go.Proofs.YtkinpbhbgeiflaaDoor.Cm Go.Proofs.YtkinpbhbgeiflaaDoor.Cn Go.Proofs.YtkinpbhbgeiflaaDoor.Ik
/-- The length of S and S, in a new block; all else stands. -/
def NewPost (w : World) (S : List Nat) (e : Ending) (w' : World) : Prop :=
  ∃ g n cap, e = .returned (.slice (some ⟨g, 0, none⟩) n cap) ∧ w.heap.size ≤ g ∧ Dst w' g n cap (numL S.length ++ S) ∧ Below w.heap.size w w'
set_option maxHeartbeats 1600000 in
theorem insert_nil (vb m vc N : Nat) (V : List Nat) (w : World) (hv : Dst w vb m vc V) (hm : 0 < m) (hN : N ≤ w.heap.size) (hbig : m ≤ 70368744177664) :
    Calls Tryd.prog 119 #[.slice none 0 0, .int .i64 0, .slice (some ⟨vb, 0, none⟩) m vc] w fun e w' => ∃ v', e = .returned v' ∧ Buf w' v' N V ∧ Below N w w' := by
  have HS := hide hv.src
  have hf := hv.fit
  have hmx := hv.max
  unfold maxLen at hmx
  clear hv
  have e1 : ¬ ((m : Int) = 0) := by omega
  go_enter Tryd.func119, Tryd.ntmps119
  go_wp2_with (refine wpList_append_buf rfl _ _ rfl (.slice none 0 0) N [] (some ⟨vb, 0, none⟩) m vc V rfl rfl (Or.inl ⟨rfl, rfl⟩) hN HS.out (fun h => by cases h) (by simp; omega) hm ?_)
  all_goals
    intro v' w' HD2 HB
    refine of_hid ?_
    go_wp2
    go_ret
    exact ⟨v', rfl, HD2.out, HB.out⟩
set_option maxHeartbeats 1600000 in
theorem text_new (k sc : Nat) (sa : Option Addr) (S : List Nat) (w : World) (hs : SrcB w sa k S) (hsc : k ≤ sc) (hscm : sc ≤ 9223372036854775807) (hl0 : 0 < k) (hl : k ≤ 4096) (hn : sa = none → k = 0) :
    Calls Tryd.prog 103 #[.slice none 0 0, .slice sa k sc] w (NewPost w S) := by
  have hSl := hs.1
  have e1 : min (k : Int) 4096 = (k : Int) := by omega
  have HS := hide hs
  clear hs
  go_enter Tryd.func103, Tryd.ntmps103
  go_wp2_with (refine wpList_append_buf rfl _ _ rfl (.slice none 0 0) w.heap.size [] sa k sc S rfl rfl (Or.inl ⟨rfl, rfl⟩) (Nat.le_refl _) HS.out hn (by simp; omega) hl0 ?_)
  intro v1 w1 HD1 HB1
  refine of_hid ?_
  obtain ⟨g1, cap1, rfl, hg1, hd1⟩ : ∃ g cap, v1 = .slice (some ⟨g, 0, none⟩) k cap ∧ w.heap.size ≤ g ∧ Dst w1 g k cap ([] ++ S) := by
    rcases HD1.out with ⟨_, h0⟩ | ⟨g, cap, h1, h2, h3⟩
    · rw [h0] at hSl
      simp at hSl
      omega
    · simp only [List.nil_append, hSl] at h1 h3
      exact ⟨g, cap, h1, h2, h3⟩
  have HD := hide hd1
  have hlt := hd1.lt
  clear hd1 HD1
  go_wp2_with fail
  refine (num_c (.slice none 0 0) w1.heap.size [] k w1 (Or.inl ⟨rfl, rfl⟩) (Nat.le_refl _) (by omega) (by simp)).mono ?_
  rintro e w2 ⟨v, rfl, hb, hB⟩
  have h6 := numL_six k (by omega)
  have hp := numL_pos k
  rcases hb with ⟨_, h0⟩ | ⟨vb, vc, rfl, hvb, hvd⟩
  · rw [List.nil_append] at h0
    rw [h0] at hp
    exact absurd hp (by simp)
  rw [List.nil_append] at hvd
  have HV := hide hvd
  have HB := hide (keepB hB (Nat.le_refl _) HB1.out)
  have HD2 := hide (HD.out.below hB HD.out.lt)
  clear hvd hB
  simp only [List.nil_append]
  go_wp2_with fail
  have HI := hide (insert_mid g1 k cap1 0 vb (numL k).length vc [] S (numL k) w2 HD2.out HV.out (by omega) hp rfl (by omega) (by omega))
  refine HI.out.mono ?_
  rintro e w3 ⟨g', cap', rfl, hd3, hg3, hor, hkeep⟩
  have HP : Hid (w.heap.size ≤ g' ∧ Dst w3 g' (k + (numL k).length) cap' (numL S.length ++ S) ∧ Below w.heap.size w w3) := by
    refine hide ⟨?_, by rw [hSl]; exact hd3, belowG HB.out hg3 hg1 HB.out.size⟩
    have := HB.out.size
    rcases hor with rfl | h
    · exact hg1
    · omega
  clear hd3 hg3 hor hkeep HI
  go_wp2
  go_ret
  exact ⟨g', _, cap', rfl, HP.out⟩
theorem append_none_run (w : World) (ty : TypeId) (sa : Option Addr) (sc : Nat) : (Builtin.append_ #[22, 22] ty #[.slice none 0 0, .slice sa 0 sc]).run Tryd.prog w = .ok (.slice none 0 0) w := by
  cases sa <;> rfl
theorem wpList_append_none {w : World} {ops : Array Oper} {rest : List Oper} {o : Oper} {a : Act} {Q : Exit → Act → World → Prop} (hgd : o.guard = none) (s x : Operand)
    (ho : o.op = .call { callee := .builtin .append, args := #[s, x], argTypes := #[22, 22] }) (sa : Option Addr) (sc : Nat)
    (hs : a.eval s = .slice none 0 0) (hx : a.eval x = .slice sa 0 sc)
    (h : Hid (wpList Tryd.prog ops Q rest (a.put o.dst (.slice none 0 0)) w)) : wpList Tryd.prog ops Q (o :: rest) a w := by
  have hrun := append_none_run w o.type sa sc
  refine wpList_plain hgd fun K hK => ?_
  unfold Oper.wp
  simp [execOp, ho, resolve, invoke, builtin, hs, hx, hrun, Result.andThen]
  exact hK _ _ h
set_option maxHeartbeats 1600000 in
theorem text_zero (sc : Nat) (sa : Option Addr) (w : World) (hscm : sc ≤ 9223372036854775807) :
    Calls Tryd.prog 103 #[.slice none 0 0, .slice sa 0 sc] w (NewPost w []) := by
  have e1 : min (0 : Int) 4096 = 0 := by omega
  go_enter Tryd.func103, Tryd.ntmps103
  go_wp2_with (refine wpList_append_none rfl _ _ rfl sa sc rfl rfl ?_)
  refine of_hid ?_
  go_wp2_with fail
  refine (num_c (.slice none 0 0) w.heap.size [] 0 w (Or.inl ⟨rfl, rfl⟩) (Nat.le_refl _) (by omega) (by simp)).mono ?_
  rintro e w2 ⟨v, rfl, hb, hB⟩
  have h6 := numL_six 0 (by omega)
  have hp := numL_pos 0
  rcases hb with ⟨_, h0⟩ | ⟨vb, vc, rfl, hvb, hvd⟩
  · rw [List.nil_append] at h0
    rw [h0] at hp
    exact absurd hp (by simp)
  rw [List.nil_append] at hvd
  have HV := hide hvd
  have HB := hide hB
  clear hvd hB
  simp only [List.nil_append]
  go_wp2_with fail
  refine (insert_nil vb (numL 0).length vc w.heap.size (numL 0) w2 HV.out hp HB.out.size (by omega)).mono ?_
  rintro e w3 ⟨v', rfl, hbuf, hB3⟩
  have HP : Hid (NewPost w [] (.returned v') w3) := by
    rcases hbuf with ⟨_, h0⟩ | ⟨g, cap, rfl, h2, h3⟩
    · rw [h0] at hp
      exact absurd hp (by simp)
    · exact hide ⟨g, _, cap, rfl, h2, by simpa using h3, HB.out.trans hB3⟩
  clear hbuf hB3
  go_wp2
  go_ret
  exact HP.out
theorem text_nil (k sc : Nat) (sa : Option Addr) (S : List Nat) (w : World) (hs : SrcB w sa k S) (hsc : k ≤ sc) (hscm : sc ≤ 9223372036854775807) (hl : k ≤ 4096) (hn : sa = none → k = 0) :
    Calls Tryd.prog 103 #[.slice none 0 0, .slice sa k sc] w (NewPost w S) := by
  by_cases h0 : k = 0
  · subst h0
    obtain rfl : S = [] := List.length_eq_zero_iff.1 hs.1
    exact text_zero sc sa w hscm
  · exact text_new k sc sa S w hs hsc hscm (by omega) hl hn
end Go.Proofs.YtkinpbhbgeiflaaDoor.Il
