/- code.Text: a text behind bytes. -/
import Derived.Test.YtkinpbhbgeiflaaDoorIj
import Derived.Test.YtkinpbhbgeiflaaDoorCy
namespace Go.Proofs.YtkinpbhbgeiflaaDoor.Ik
set_option linter.unusedVariables false
set_option linter.unusedSimpArgs false
set_option maxRecDepth 100000
open Go.ChangeShapes Go.WideShapes Go.ChangeAt Go.RowKit
open Go.Proofs.YtkinpbhbgeiflaaDoor.Wu Go.Proofs.YtkinpbhbgeiflaaDoor.Sm Go.Proofs.YtkinpbhbgeiflaaDoor.Sh Go.Proofs.YtkinpbhbgeiflaaDoor.Ba Go.Proofs.YtkinpbhbgeiflaaDoor.Bp Go.Proofs.YtkinpbhbgeiflaaDoor.Bq Go.Proofs.YtkinpbhbgeiflaaDoor.Bz Go.Proofs.YtkinpbhbgeiflaaDoor.Is Go.Proofs.YtkinpbhbgeiflaaDoor.Ig Go.Proofs.YtkinpbhbgeiflaaDoor.Ih Go.Proofs.YtkinpbhbgeiflaaDoor.Ij Go.Proofs.YtkinpbhbgeiflaaDoor.Cm Go.Proofs.YtkinpbhbgeiflaaDoor.Cn
/-- The bytes A, the length of S, S: in g or in a new block; all else stands; what stands in g begins with A. -/
def TextPost (w : World) (g i : Nat) (A S : List Nat) (e : Ending) (w' : World) : Prop :=
  ∃ g' cap' n, e = .returned (.slice (some ⟨g', 0, none⟩) n cap') ∧ Dst w' g' n cap' (A ++ numL S.length ++ S) ∧ w.grownBy w' (some g) ∧ (g' = g ∨ w.heap.size ≤ g') ∧ w'.rangeAt g 0 (b8 A)
theorem range_take {w : World} {g n cap : Nat} {A S : List Nat} (h : Dst w g n cap (A ++ S)) : w.rangeAt g 0 (b8 A) := (Dst.take h rfl).cells
theorem range_blk {w w' : World} {g : Nat} {X : List Value} (h : w.rangeAt g 0 X) (e : w'.heap[g]? = w.heap[g]?) : w'.rangeAt g 0 X := fun j v hv => by
  rw [World.cell?_of_block (a := ⟨g, 0 + j, none⟩) e]; exact h j v hv
set_option maxHeartbeats 1600000 in
set_option maxRecDepth 100000 in
theorem text_some (g i cap k l sc : Nat) (sa : Option Addr) (A S : List Nat) (w : World) (hd : Dst w g i cap A) (hs : SrcB w sa l S) (e1 : min (k : Int) 4096 = (l : Int)) (hlk : l ≤ k) (hsc : k ≤ sc) (hscm : sc ≤ 9223372036854775807) (hi : i ≤ 1000000) (hl0 : 0 < l) (hl : l ≤ 4096) (hn : sa = none → l = 0) :
    Calls Tryd.prog 103 #[.slice (some ⟨g, 0, none⟩) i cap, .slice sa k sc] w (TextPost w g i A S) := by
  have hmx := hd.max
  have hf := hd.fit
  have hAl := hd.len
  have hSl := hs.1
  have hg := hd.lt
  unfold maxLen at hmx
  have HD := hide hd
  have HS := hide hs
  clear hd hs
  go_enter Tryd.func103, Tryd.ntmps103
  go_wp2_with (refine wpList_append_dst rfl _ _ rfl g i cap A sa l sc S rfl rfl HD.out HS.out (by omega) hn ?_)
  intro g1 cap1 w1 HD1 HG1 hgg HK1
  refine of_hid ?_
  have hw1 : w.heap.size ≤ w1.heap.size := HG1.out.size
  go_wp2_with fail
  refine (num_c (.slice none 0 0) w1.heap.size [] l w1 (Or.inl ⟨rfl, rfl⟩) (Nat.le_refl _) (by omega) (by simp)).mono ?_
  rintro e w2 ⟨v, rfl, hb, hB⟩
  have h6 := numL_six l (by omega)
  have hp := numL_pos l
  rcases hb with ⟨_, h0⟩ | ⟨vb, vc, rfl, hvb, hvd⟩
  · rw [List.nil_append] at h0
    rw [h0] at hp
    exact absurd hp (by simp)
  rw [List.nil_append] at hvd
  have HV := hide hvd
  have HB := hide hB
  have HD2 := hide (HD1.out.below hB HD1.out.lt)
  clear hvd hB
  simp only [List.nil_append]
  go_wp2_with fail
  have hg1 := HD1.out.lt
  refine (insert_mid g1 (i + l) cap1 i vb (numL l).length vc A S (numL l) w2 HD2.out HV.out (by omega) hp hAl (by omega) (by omega)).mono ?_
  rintro e w3 ⟨g', cap', rfl, hd3, hg3, hor, hkeep⟩
  have HP : Hid (Dst w3 g' (i + l + (numL l).length) cap' (A ++ numL S.length ++ S) ∧ w.grownBy w3 (some g) ∧ (g' = g ∨ w.heap.size ≤ g') ∧ w3.rangeAt g 0 (b8 A)) := by
    refine hide ⟨by rw [hSl]; exact hd3, ?_, ?_, ?_⟩
    · refine ⟨hg3.os.trans (HB.out.os.trans HG1.out.os), hg3.tape.trans (HB.out.tape.trans HG1.out.tape), hg3.output.trans (HB.out.output.trans HG1.out.output), Nat.le_trans hw1 (Nat.le_trans HB.out.size hg3.size), fun k hk hne => ?_⟩
      have hne' : some k ≠ some g1 := by
        rcases hgg with rfl | rfl
        · exact hne
        · intro e; injection e with e; omega
      exact (hg3.block k (by have := HB.out.size; omega) hne').trans ((HB.out.block k (by omega)).trans (HG1.out.block k hk hne))
    · have := HB.out.size
      rcases hor with rfl | h
      · rcases hgg with rfl | rfl
        · exact .inl rfl
        · exact .inr (Nat.le_refl _)
      · exact .inr (by omega)
    · have hK2 : w2.rangeAt g 0 (b8 A) := range_blk HK1.out (HB.out.block g (by omega))
      by_cases hgg1 : g = g1
      · subst hgg1
        by_cases he : g' = g
        · subst he
          rw [List.append_assoc] at hd3
          exact range_take hd3
        · exact range_blk hK2 (hkeep he)
      · exact range_blk hK2 (hg3.block g (by have := HB.out.size; omega) (fun e => hgg1 (by injection e)))
  clear hd3 hg3 hor hkeep
  go_wp2
  go_ret
  exact ⟨g', cap', _, rfl, HP.out⟩
set_option maxHeartbeats 1600000 in
set_option maxRecDepth 100000 in
theorem text_none (g i cap sc : Nat) (sa : Option Addr) (A : List Nat) (w : World) (hd : Dst w g i cap A) (hscm : sc ≤ 9223372036854775807) (hi : i ≤ 1000000) (hs : SrcB w sa 0 []) :
    Calls Tryd.prog 103 #[.slice (some ⟨g, 0, none⟩) i cap, .slice sa 0 sc] w (TextPost w g i A []) := by
  have hmx := hd.max
  have hf := hd.fit
  have hAl := hd.len
  have hg := hd.lt
  unfold maxLen at hmx
  have HD := hide hd
  have HS := hide hs
  clear hd hs
  have e1 : min (0 : Int) 4096 = 0 := by omega
  go_enter Tryd.func103, Tryd.ntmps103
  go_wp2_with (refine wpList_append_dst rfl _ _ rfl g i cap A sa 0 sc [] rfl rfl HD.out HS.out (by omega) (fun _ => rfl) ?_)
  intro g1 cap1 w1 HD1 HG1 hgg HK1
  refine of_hid ?_
  have hw1 : w.heap.size ≤ w1.heap.size := HG1.out.size
  go_wp2_with fail
  refine (num_c (.slice none 0 0) w1.heap.size [] 0 w1 (Or.inl ⟨rfl, rfl⟩) (Nat.le_refl _) (by omega) (by simp)).mono ?_
  rintro e w2 ⟨v, rfl, hb, hB⟩
  have hp := numL_pos 0
  have h6 := numL_six 0 (by omega)
  rcases hb with ⟨_, h0⟩ | ⟨vb, vc, rfl, hvb, hvd⟩
  · rw [List.nil_append] at h0
    rw [h0] at hp
    exact absurd hp (by simp)
  rw [List.nil_append] at hvd
  have HV := hide hvd
  have HB := hide hB
  have HD2 := hide (HD1.out.below hB HD1.out.lt)
  clear hvd hB
  simp only [List.nil_append]
  go_wp2_with fail
  refine (insert_end g1 i cap1 vb (numL 0).length vc A (numL 0) w2 HD2.out HV.out hp (by omega)).mono ?_
  rintro e w3 ⟨g', cap', rfl, hd3, hg3, hor, hkeep⟩
  have hg1 := HD1.out.lt
  have HP : Hid (Dst w3 g' (i + (numL 0).length) cap' (A ++ numL ([] : List Nat).length ++ []) ∧ w.grownBy w3 (some g) ∧ (g' = g ∨ w.heap.size ≤ g') ∧ w3.rangeAt g 0 (b8 A)) := by
    refine hide ⟨by rw [List.append_nil]; exact hd3, ?_, ?_, ?_⟩
    · refine ⟨hg3.os.trans (HB.out.os.trans HG1.out.os), hg3.tape.trans (HB.out.tape.trans HG1.out.tape), hg3.output.trans (HB.out.output.trans HG1.out.output), Nat.le_trans hw1 (Nat.le_trans HB.out.size hg3.size), fun k hk hne => ?_⟩
      have hne' : some k ≠ some g1 := by
        rcases hgg with rfl | rfl
        · exact hne
        · intro e; injection e with e; omega
      exact (hg3.block k (by have := HB.out.size; omega) hne').trans ((HB.out.block k (by omega)).trans (HG1.out.block k hk hne))
    · have := HB.out.size
      rcases hor with rfl | h
      · rcases hgg with rfl | rfl
        · exact .inl rfl
        · exact .inr (Nat.le_refl _)
      · exact .inr (by omega)
    · have hK2 : w2.rangeAt g 0 (b8 A) := range_blk HK1.out (HB.out.block g (by omega))
      by_cases hgg1 : g = g1
      · subst hgg1
        exact hkeep
      · exact range_blk hK2 (hg3.block g (by have := HB.out.size; omega) (fun e => hgg1 (by injection e)))
  clear hd3 hg3 hor hkeep
  go_wp2
  go_ret
  exact ⟨g', cap', _, rfl, HP.out⟩
theorem src_take {w : World} {a : Option Addr} {n k : Nat} {L : List Nat} (h : SrcB w a n L) (hk : k ≤ n) : SrcB w a k (L.take k) := by
  obtain ⟨hl, h8, b, off, ha, hc⟩ := h
  refine ⟨by rw [List.length_take, hl]; omega, all8_take h8 k, b, off, fun h => ha (by omega), fun i hi => ?_⟩
  rw [hc i (by omega)]
  congr 3
  simp only [List.getD, List.getElem?_take_of_lt hi]
/-- A text's bytes as they are written: how many, and these; of a longer one its first 4096. -/
theorem text_any (g i cap k sc : Nat) (sa : Option Addr) (A S : List Nat) (w : World) (hd : Dst w g i cap A) (hs : SrcB w sa k S) (hsc : k ≤ sc) (hscm : sc ≤ 9223372036854775807) (hi : i ≤ 1000000) (hn : sa = none → k = 0) :
    Calls Tryd.prog 103 #[.slice (some ⟨g, 0, none⟩) i cap, .slice sa k sc] w (TextPost w g i A (S.take 4096)) := by
  by_cases h0 : k = 0
  · subst h0
    obtain rfl : S = [] := List.length_eq_zero_iff.1 hs.1
    exact text_none g i cap sc sa A w hd hscm hi hs
  · by_cases h4 : k ≤ 4096
    · have e : S.take 4096 = S := List.take_of_length_le (by rw [hs.1]; omega)
      rw [e]
      exact text_some g i cap k k sc sa A S w hd hs (by omega) (Nat.le_refl _) hsc hscm hi (by omega) h4 hn
    · exact text_some g i cap k 4096 sc sa A (S.take 4096) w hd (src_take hs (by omega)) (by omega) (by omega) hsc hscm hi (by omega) (by omega) (fun h => absurd (hn h) h0)
end Go.Proofs.YtkinpbhbgeiflaaDoor.Ik
