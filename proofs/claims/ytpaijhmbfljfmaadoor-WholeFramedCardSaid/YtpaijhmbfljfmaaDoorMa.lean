/- Several texts, one behind the other. -/
import Derived.Test.YtpaijhmbfljfmaaDoorBq
import Derived.Laws.BytesArg
import Derived.Laws.BytesString
import Derived.Test.YtpaijhmbfljfmaaDoorCt
import Derived.Test.YtpaijhmbfljfmaaDoorIj
import Derived.Test.YtpaijhmbfljfmaaDoorCy
import Derived.Test.YtpaijhmbfljfmaaDoorRows
import Derived.Test.YtpaijhmbfljfmaaDoorWu
import Derived.WalkKit
import Derived.LaidEql
import Derived.Stop.Asserts
import Derived.RowKitTokens
import Derived.Defers
import Derived.Recover
import Derived.Test.YtpaijhmbfljfmaaDoorRk
import Derived.Test.YtpaijhmbfljfmaaDoorRg
import Derived.Laws.CopyOwn
import Derived.Laws.Tables
import Derived.Test.YtpaijhmbfljfmaaDoorSg
import Derived.Test.YtpaijhmbfljfmaaDoorSu
import Derived.Test.YtpaijhmbfljfmaaDoorSmc
import Derived.Test.YtpaijhmbfljfmaaDoorWc
import Derived.Test.YtpaijhmbfljfmaaDoorWx
import Derived.Deep.RegionHeld3
import Derived.Deep.RegionWith
import Derived.LoopN
import Derived.Laws.StructEq
import Derived.Test.YtpaijhmbfljfmaaDoorFw
import Derived.Test.YtpaijhmbfljfmaaDoorFd
import Derived.Test.YtpaijhmbfljfmaaDoorRx
import Derived.Test.YtpaijhmbfljfmaaDoorSo
import Derived.OpenShut
import Derived.Test.YtpaijhmbfljfmaaDoorBa
import Derived.ProofKit
/- Texts of bytes; a slice of bytes as a text. -/
namespace Go.Proofs.YtpaijhmbfljfmaaDoor.Bs
set_option linter.unusedVariables false
set_option linter.unusedSimpArgs false
set_option maxRecDepth 100000
open Go.RowKit
open Go.Proofs.YtpaijhmbfljfmaaDoor.Wu Go.Proofs.YtpaijhmbfljfmaaDoor.Sm Go.Proofs.YtpaijhmbfljfmaaDoor.Sh Go.Proofs.YtpaijhmbfljfmaaDoor.Ba Go.Proofs.YtpaijhmbfljfmaaDoor.Bp Go.Proofs.YtpaijhmbfljfmaaDoor.Bq
def strN (L : List Nat) : ByteArray := strOfNums (L.map fun x : Nat => (x : Int))
theorem strN_size (A : List Nat) : (strN A).size = A.length := by unfold strN; rw [strOfNums_size]; simp
theorem conv_row {w : World} {B off n cap : Nat} {L : List Nat} (hl : L.length = n) (hc : ∀ i, i < n → w.cell? ⟨B, off + i, none⟩ = some (.int .u8 ((L.getD i 0 : Nat) : Int))) :
    Sem.run Tryd.prog (convert 31 9 (.slice (some ⟨B, off, none⟩) n cap)) w = .ok (.string (strN L)) w :=
  run_convert_bytes_arg w 31 5 Tryd.underlying31 Tryd.underlying5 B off n cap (L.map fun x : Nat => (x : Int)) (by simp [hl]) (fun i hi => by
    rw [hc i hi]; simp [List.getD, List.getElem?_eq_getElem (show i < L.length by omega)]) 9 Tryd.underlying9
theorem conv_none (a : Option Addr) (cap : Nat) (u : World) : Sem.run Tryd.prog (convert 31 9 (.slice a 0 cap)) u = .ok (.string (strN [])) u := by
  rw [run_convert_bytes_string u 31 9 5 a 0 cap Tryd.underlying31 Tryd.underlying5 Tryd.underlying9]
  cases a with
  | none => simp [Conv.bytesToString]; rfl
  | some x => exact run_bytesToString u x 0 cap [] (by simp [loadCells]; rfl)
theorem conv_src {w : World} {a : Option Addr} {n cap : Nat} {L : List Nat} (h : SrcB w a n L) : Sem.run Tryd.prog (convert 31 9 (.slice a n cap)) w = .ok (.string (strN L)) w := by
  obtain ⟨hl, h8, b, off, ha, hc⟩ := h
  by_cases h0 : n = 0
  · subst h0
    obtain rfl : L = [] := List.length_eq_zero_iff.1 hl
    exact conv_none a cap w
  · obtain rfl := ha (by omega)
    exact conv_row hl hc
end Go.Proofs.YtpaijhmbfljfmaaDoor.Bs
/- The laws' first look at code: reads. -/
namespace Go.Proofs.YtpaijhmbfljfmaaDoor.Cl
set_option linter.unusedVariables false
set_option linter.unusedSimpArgs false
set_option maxRecDepth 100000
open Go.ChangeShapes Go.WideShapes Go.ChangeAt Go.RowKit
open Go.Proofs.YtpaijhmbfljfmaaDoor.Wu Go.Proofs.YtpaijhmbfljfmaaDoor.Sm Go.Proofs.YtpaijhmbfljfmaaDoor.Sh Go.Proofs.YtpaijhmbfljfmaaDoor.Ba Go.Proofs.YtpaijhmbfljfmaaDoor.Bp Go.Proofs.YtpaijhmbfljfmaaDoor.Bq Go.Proofs.YtpaijhmbfljfmaaDoor.Cm Go.Proofs.YtpaijhmbfljfmaaDoor.Cn Go.Proofs.YtpaijhmbfljfmaaDoor.Cr Go.Proofs.YtpaijhmbfljfmaaDoor.Cs Go.Proofs.YtpaijhmbfljfmaaDoor.Rk Go.Proofs.YtpaijhmbfljfmaaDoor.Ct Go.Proofs.YtpaijhmbfljfmaaDoor.Bs
attribute [local go_sem] kUpon_value kUpon_skip kUpon_enter
theorem num300 : numL 300 = [172, 2] := by rw [numL_big 300 (by omega), numL_small 2 (by omega)]
theorem str300 : strN [172, 2] = ⟨#[172, 2]⟩ := by kernel_rfl
end Go.Proofs.YtpaijhmbfljfmaaDoor.Cl
/- code.Text: a text behind bytes. -/
namespace Go.Proofs.YtpaijhmbfljfmaaDoor.Ik
set_option linter.unusedVariables false
set_option linter.unusedSimpArgs false
set_option maxRecDepth 100000
open Go.ChangeShapes Go.WideShapes Go.ChangeAt Go.RowKit
open Go.Proofs.YtpaijhmbfljfmaaDoor.Wu Go.Proofs.YtpaijhmbfljfmaaDoor.Sm Go.Proofs.YtpaijhmbfljfmaaDoor.Sh Go.Proofs.YtpaijhmbfljfmaaDoor.Ba Go.Proofs.YtpaijhmbfljfmaaDoor.Bp Go.Proofs.YtpaijhmbfljfmaaDoor.Bq Go.Proofs.YtpaijhmbfljfmaaDoor.Bz Go.Proofs.YtpaijhmbfljfmaaDoor.Is Go.Proofs.YtpaijhmbfljfmaaDoor.Ig Go.Proofs.YtpaijhmbfljfmaaDoor.Ih Go.Proofs.YtpaijhmbfljfmaaDoor.Ij Go.Proofs.YtpaijhmbfljfmaaDoor.Cm Go.Proofs.YtpaijhmbfljfmaaDoor.Cn
/-- The bytes A, the length of S, S: in g or in a new block; all else stands; what stands in g begins with A. -/
def TextPost (w : World) (g i : Nat) (A S : List Nat) (e : Ending) (w' : World) : Prop :=
  ∃ g' cap' n, e = .returned (.slice (some ⟨g', 0, none⟩) n cap') ∧ Dst w' g' n cap' (A ++ numL S.length ++ S) ∧ w.grownBy w' (some g) ∧ (g' = g ∨ w.heap.size ≤ g') ∧ w'.rangeAt g 0 (b8 A)
theorem range_take {w : World} {g n cap : Nat} {A S : List Nat} (h : Dst w g n cap (A ++ S)) : w.rangeAt g 0 (b8 A) := (Dst.take h rfl).cells
theorem range_blk {w w' : World} {g : Nat} {X : List Value} (h : w.rangeAt g 0 X) (e : w'.heap[g]? = w.heap[g]?) : w'.rangeAt g 0 X := fun j v hv => by
  rw [World.cell?_of_block (a := ⟨g, 0 + j, none⟩) e]; exact h j v hv
set_option maxHeartbeats 1600000 in
set_option maxRecDepth 100000 in
theorem text_some (g i cap k l sc : Nat) (sa : Option Addr) (A S : List Nat) (w : World) (hd : Dst w g i cap A) (hs : SrcB w sa l S) (e1 : min (k : Int) 4096 = (l : Int)) (hlk : l ≤ k) (hsc : k ≤ sc) (hscm : sc ≤ 9223372036854775807) (hi : i ≤ 1000000) (hl0 : 0 < l) (hl : l ≤ 4096) (hn : sa = none → l = 0) :
    Calls Tryd.prog 47 #[.slice (some ⟨g, 0, none⟩) i cap, .slice sa k sc] w (TextPost w g i A S) := by
  have hmx := hd.max
  have hf := hd.fit
  have hAl := hd.len
  have hSl := hs.1
  have hg := hd.lt
  unfold maxLen at hmx
  have HD := hide hd
  have HS := hide hs
  clear hd hs
  go_enter Tryd.func47, Tryd.ntmps47
  go_wp2_with (refine wpList_append_dst rfl _ _ rfl g i cap A sa l sc S rfl rfl HD.out HS.out (by omega) hn ?_)
  intro g1 cap1 w1 HD1 HG1 hgg HK1
  refine of_hid ?_
  have hw1 : w.heap.size ≤ w1.heap.size := HG1.out.size
  go_wp2_with fail
  refine (num_c (.slice none 0 0) w1.heap.size [] l w1 (Or.inl ⟨rfl, rfl⟩) (Nat.le_refl _) (by omega) (by simp)).mono ?_
  rintro e w2 ⟨v, rfl, hb, hB⟩
  have h6 := numL_six l (by omega)
  have hp := numL_pos l
  rcases hb with ⟨_, h0⟩ | ⟨vb, vc, rfl, hvb, hvd⟩
  · rw [List.nil_append] at h0
    rw [h0] at hp
    exact absurd hp (by simp)
  rw [List.nil_append] at hvd
  have HV := hide hvd
  have HB := hide hB
  have HD2 := hide (HD1.out.below hB HD1.out.lt)
  clear hvd hB
  simp only [List.nil_append]
  go_wp2_with fail
  have hg1 := HD1.out.lt
  refine (insert_mid g1 (i + l) cap1 i vb (numL l).length vc A S (numL l) w2 HD2.out HV.out (by omega) hp hAl (by omega) (by omega)).mono ?_
  rintro e w3 ⟨g', cap', rfl, hd3, hg3, hor, hkeep⟩
  have HP : Hid (Dst w3 g' (i + l + (numL l).length) cap' (A ++ numL S.length ++ S) ∧ w.grownBy w3 (some g) ∧ (g' = g ∨ w.heap.size ≤ g') ∧ w3.rangeAt g 0 (b8 A)) := by
    refine hide ⟨by rw [hSl]; exact hd3, ?_, ?_, ?_⟩
    · refine ⟨hg3.os.trans (HB.out.os.trans HG1.out.os), hg3.tape.trans (HB.out.tape.trans HG1.out.tape), hg3.output.trans (HB.out.output.trans HG1.out.output), Nat.le_trans hw1 (Nat.le_trans HB.out.size hg3.size), fun k hk hne => ?_⟩
      have hne' : some k ≠ some g1 := by
        rcases hgg with rfl | rfl
        · exact hne
        · intro e; injection e with e; omega
      exact (hg3.block k (by have := HB.out.size; omega) hne').trans ((HB.out.block k (by omega)).trans (HG1.out.block k hk hne))
    · have := HB.out.size
      rcases hor with rfl | h
      · rcases hgg with rfl | rfl
        · exact .inl rfl
        · exact .inr (Nat.le_refl _)
      · exact .inr (by omega)
    · have hK2 : w2.rangeAt g 0 (b8 A) := range_blk HK1.out (HB.out.block g (by omega))
      by_cases hgg1 : g = g1
      · subst hgg1
        by_cases he : g' = g
        · subst he
          rw [List.append_assoc] at hd3
          exact range_take hd3
        · exact range_blk hK2 (hkeep he)
      · exact range_blk hK2 (hg3.block g (by have := HB.out.size; omega) (fun e => hgg1 (by injection e)))
  clear hd3 hg3 hor hkeep
  go_wp2
  go_ret
  exact ⟨g', cap', _, rfl, HP.out⟩
set_option maxHeartbeats 1600000 in
set_option maxRecDepth 100000 in
theorem text_none (g i cap sc : Nat) (sa : Option Addr) (A : List Nat) (w : World) (hd : Dst w g i cap A) (hscm : sc ≤ 9223372036854775807) (hi : i ≤ 1000000) (hs : SrcB w sa 0 []) :
    Calls Tryd.prog 47 #[.slice (some ⟨g, 0, none⟩) i cap, .slice sa 0 sc] w (TextPost w g i A []) := by
  have hmx := hd.max
  have hf := hd.fit
  have hAl := hd.len
  have hg := hd.lt
  unfold maxLen at hmx
  have HD := hide hd
  have HS := hide hs
  clear hd hs
  have e1 : min (0 : Int) 4096 = 0 := by omega
  go_enter Tryd.func47, Tryd.ntmps47
  go_wp2_with (refine wpList_append_dst rfl _ _ rfl g i cap A sa 0 sc [] rfl rfl HD.out HS.out (by omega) (fun _ => rfl) ?_)
  intro g1 cap1 w1 HD1 HG1 hgg HK1
  refine of_hid ?_
  have hw1 : w.heap.size ≤ w1.heap.size := HG1.out.size
  go_wp2_with fail
  refine (num_c (.slice none 0 0) w1.heap.size [] 0 w1 (Or.inl ⟨rfl, rfl⟩) (Nat.le_refl _) (by omega) (by simp)).mono ?_
  rintro e w2 ⟨v, rfl, hb, hB⟩
  have hp := numL_pos 0
  have h6 := numL_six 0 (by omega)
  rcases hb with ⟨_, h0⟩ | ⟨vb, vc, rfl, hvb, hvd⟩
  · rw [List.nil_append] at h0
    rw [h0] at hp
    exact absurd hp (by simp)
  rw [List.nil_append] at hvd
  have HV := hide hvd
  have HB := hide hB
  have HD2 := hide (HD1.out.below hB HD1.out.lt)
  clear hvd hB
  simp only [List.nil_append]
  go_wp2_with fail
  refine (insert_end g1 i cap1 vb (numL 0).length vc A (numL 0) w2 HD2.out HV.out hp (by omega)).mono ?_
  rintro e w3 ⟨g', cap', rfl, hd3, hg3, hor, hkeep⟩
  have hg1 := HD1.out.lt
  have HP : Hid (Dst w3 g' (i + (numL 0).length) cap' (A ++ numL ([] : List Nat).length ++ []) ∧ w.grownBy w3 (some g) ∧ (g' = g ∨ w.heap.size ≤ g') ∧ w3.rangeAt g 0 (b8 A)) := by
    refine hide ⟨by rw [List.append_nil]; exact hd3, ?_, ?_, ?_⟩
    · refine ⟨hg3.os.trans (HB.out.os.trans HG1.out.os), hg3.tape.trans (HB.out.tape.trans HG1.out.tape), hg3.output.trans (HB.out.output.trans HG1.out.output), Nat.le_trans hw1 (Nat.le_trans HB.out.size hg3.size), fun k hk hne => ?_⟩
      have hne' : some k ≠ some g1 := by
        rcases hgg with rfl | rfl
        · exact hne
        · intro e; injection e with e; omega
      exact (hg3.block k (by have := HB.out.size; omega) hne').trans ((HB.out.block k (by omega)).trans (HG1.out.block k hk hne))
    · have := HB.out.size
      rcases hor with rfl | h
      · rcases hgg with rfl | rfl
        · exact .inl rfl
        · exact .inr (Nat.le_refl _)
      · exact .inr (by omega)
    · have hK2 : w2.rangeAt g 0 (b8 A) := range_blk HK1.out (HB.out.block g (by omega))
      by_cases hgg1 : g = g1
      · subst hgg1
        exact hkeep
      · exact range_blk hK2 (hg3.block g (by have := HB.out.size; omega) (fun e => hgg1 (by injection e)))
  clear hd3 hg3 hor hkeep
  go_wp2
  go_ret
  exact ⟨g', cap', _, rfl, HP.out⟩
theorem src_take {w : World} {a : Option Addr} {n k : Nat} {L : List Nat} (h : SrcB w a n L) (hk : k ≤ n) : SrcB w a k (L.take k) := by
  obtain ⟨hl, h8, b, off, ha, hc⟩ := h
  refine ⟨by rw [List.length_take, hl]; omega, all8_take h8 k, b, off, fun h => ha (by omega), fun i hi => ?_⟩
  rw [hc i (by omega)]
  congr 3
  simp only [List.getD, List.getElem?_take_of_lt hi]
/-- A text's bytes as they are written: how many, and these; of a longer one its first 4096. -/
theorem text_any (g i cap k sc : Nat) (sa : Option Addr) (A S : List Nat) (w : World) (hd : Dst w g i cap A) (hs : SrcB w sa k S) (hsc : k ≤ sc) (hscm : sc ≤ 9223372036854775807) (hi : i ≤ 1000000) (hn : sa = none → k = 0) :
    Calls Tryd.prog 47 #[.slice (some ⟨g, 0, none⟩) i cap, .slice sa k sc] w (TextPost w g i A (S.take 4096)) := by
  by_cases h0 : k = 0
  · subst h0
    obtain rfl : S = [] := List.length_eq_zero_iff.1 hs.1
    exact text_none g i cap sc sa A w hd hscm hi hs
  · by_cases h4 : k ≤ 4096
    · have e : S.take 4096 = S := List.take_of_length_le (by rw [hs.1]; omega)
      rw [e]
      exact text_some g i cap k k sc sa A S w hd hs (by omega) (Nat.le_refl _) hsc hscm hi (by omega) h4 hn
    · exact text_some g i cap k 4096 sc sa A (S.take 4096) w hd (src_take hs (by omega)) (by omega) (by omega) hsc hscm hi (by omega) (by omega) (fun h => absurd (hn h) h0)
end Go.Proofs.YtpaijhmbfljfmaaDoor.Ik
/- code.Text on no bytes. -/
namespace Go.Proofs.YtpaijhmbfljfmaaDoor.Il
set_option linter.unusedVariables false
set_option linter.unusedSimpArgs false
set_option maxRecDepth 100000
open Go.ChangeShapes Go.WideShapes Go.ChangeAt Go.RowKit
open Go.Proofs.YtpaijhmbfljfmaaDoor.Wu Go.Proofs.YtpaijhmbfljfmaaDoor.Sm Go.Proofs.YtpaijhmbfljfmaaDoor.Sh Go.Proofs.YtpaijhmbfljfmaaDoor.Ba Go.Proofs.YtpaijhmbfljfmaaDoor.Bp Go.Proofs.YtpaijhmbfljfmaaDoor.Bq Go.Proofs.YtpaijhmbfljfmaaDoor.Bz Go.Proofs.YtpaijhmbfljfmaaDoor.Is Go.Proofs.YtpaijhmbfljfmaaDoor.Ig Go.Proofs.YtpaijhmbfljfmaaDoor.Ih Go.Proofs.YtpaijhmbfljfmaaDoor.Ij Go.Proofs.YtpaijhmbfljfmaaDoor.Cm Go.Proofs.YtpaijhmbfljfmaaDoor.Cn Go.Proofs.YtpaijhmbfljfmaaDoor.Ik
/-- The length of S and S, in a new block; all else stands. -/
def NewPost (w : World) (S : List Nat) (e : Ending) (w' : World) : Prop :=
  ∃ g n cap, e = .returned (.slice (some ⟨g, 0, none⟩) n cap) ∧ w.heap.size ≤ g ∧ Dst w' g n cap (numL S.length ++ S) ∧ Below w.heap.size w w'
set_option maxHeartbeats 1600000 in
theorem insert_nil (vb m vc N : Nat) (V : List Nat) (w : World) (hv : Dst w vb m vc V) (hm : 0 < m) (hN : N ≤ w.heap.size) (hbig : m ≤ 70368744177664) :
    Calls Tryd.prog 70 #[.slice none 0 0, .int .i64 0, .slice (some ⟨vb, 0, none⟩) m vc] w fun e w' => ∃ v', e = .returned v' ∧ Buf w' v' N V ∧ Below N w w' := by
  have HS := hide hv.src
  have hf := hv.fit
  have hmx := hv.max
  unfold maxLen at hmx
  clear hv
  have e1 : ¬ ((m : Int) = 0) := by omega
  go_enter Tryd.func70, Tryd.ntmps70
  go_wp2_with (refine wpList_append_buf rfl _ _ rfl (.slice none 0 0) N [] (some ⟨vb, 0, none⟩) m vc V rfl rfl (Or.inl ⟨rfl, rfl⟩) hN HS.out (fun h => by cases h) (by simp; omega) hm ?_)
  all_goals
    intro v' w' HD2 HB
    refine of_hid ?_
    go_wp2
    go_ret
    exact ⟨v', rfl, HD2.out, HB.out⟩
set_option maxHeartbeats 1600000 in
theorem text_new (k sc : Nat) (sa : Option Addr) (S : List Nat) (w : World) (hs : SrcB w sa k S) (hsc : k ≤ sc) (hscm : sc ≤ 9223372036854775807) (hl0 : 0 < k) (hl : k ≤ 4096) (hn : sa = none → k = 0) :
    Calls Tryd.prog 47 #[.slice none 0 0, .slice sa k sc] w (NewPost w S) := by
  have hSl := hs.1
  have e1 : min (k : Int) 4096 = (k : Int) := by omega
  have HS := hide hs
  clear hs
  go_enter Tryd.func47, Tryd.ntmps47
  go_wp2_with (refine wpList_append_buf rfl _ _ rfl (.slice none 0 0) w.heap.size [] sa k sc S rfl rfl (Or.inl ⟨rfl, rfl⟩) (Nat.le_refl _) HS.out hn (by simp; omega) hl0 ?_)
  intro v1 w1 HD1 HB1
  refine of_hid ?_
  obtain ⟨g1, cap1, rfl, hg1, hd1⟩ : ∃ g cap, v1 = .slice (some ⟨g, 0, none⟩) k cap ∧ w.heap.size ≤ g ∧ Dst w1 g k cap ([] ++ S) := by
    rcases HD1.out with ⟨_, h0⟩ | ⟨g, cap, h1, h2, h3⟩
    · rw [h0] at hSl
      simp at hSl
      omega
    · simp only [List.nil_append, hSl] at h1 h3
      exact ⟨g, cap, h1, h2, h3⟩
  have HD := hide hd1
  have hlt := hd1.lt
  clear hd1 HD1
  go_wp2_with fail
  refine (num_c (.slice none 0 0) w1.heap.size [] k w1 (Or.inl ⟨rfl, rfl⟩) (Nat.le_refl _) (by omega) (by simp)).mono ?_
  rintro e w2 ⟨v, rfl, hb, hB⟩
  have h6 := numL_six k (by omega)
  have hp := numL_pos k
  rcases hb with ⟨_, h0⟩ | ⟨vb, vc, rfl, hvb, hvd⟩
  · rw [List.nil_append] at h0
    rw [h0] at hp
    exact absurd hp (by simp)
  rw [List.nil_append] at hvd
  have HV := hide hvd
  have HB := hide (keepB hB (Nat.le_refl _) HB1.out)
  have HD2 := hide (HD.out.below hB HD.out.lt)
  clear hvd hB
  simp only [List.nil_append]
  go_wp2_with fail
  have HI := hide (insert_mid g1 k cap1 0 vb (numL k).length vc [] S (numL k) w2 HD2.out HV.out (by omega) hp rfl (by omega) (by omega))
  refine HI.out.mono ?_
  rintro e w3 ⟨g', cap', rfl, hd3, hg3, hor, hkeep⟩
  have HP : Hid (w.heap.size ≤ g' ∧ Dst w3 g' (k + (numL k).length) cap' (numL S.length ++ S) ∧ Below w.heap.size w w3) := by
    refine hide ⟨?_, by rw [hSl]; exact hd3, belowG HB.out hg3 hg1 HB.out.size⟩
    have := HB.out.size
    rcases hor with rfl | h
    · exact hg1
    · omega
  clear hd3 hg3 hor hkeep HI
  go_wp2
  go_ret
  exact ⟨g', _, cap', rfl, HP.out⟩
theorem append_none_run (w : World) (ty : TypeId) (sa : Option Addr) (sc : Nat) : (Builtin.append_ #[31, 31] ty #[.slice none 0 0, .slice sa 0 sc]).run Tryd.prog w = .ok (.slice none 0 0) w := by
  cases sa <;> rfl
theorem wpList_append_none {w : World} {ops : Array Oper} {rest : List Oper} {o : Oper} {a : Act} {Q : Exit → Act → World → Prop} (hgd : o.guard = none) (s x : Operand)
    (ho : o.op = .call { callee := .builtin .append, args := #[s, x], argTypes := #[31, 31] }) (sa : Option Addr) (sc : Nat)
    (hs : a.eval s = .slice none 0 0) (hx : a.eval x = .slice sa 0 sc)
    (h : Hid (wpList Tryd.prog ops Q rest (a.put o.dst (.slice none 0 0)) w)) : wpList Tryd.prog ops Q (o :: rest) a w := by
  have hrun := append_none_run w o.type sa sc
  refine wpList_plain hgd fun K hK => ?_
  unfold Oper.wp
  simp [execOp, ho, resolve, invoke, builtin, hs, hx, hrun, Result.andThen]
  exact hK _ _ h
set_option maxHeartbeats 1600000 in
theorem text_zero (sc : Nat) (sa : Option Addr) (w : World) (hscm : sc ≤ 9223372036854775807) :
    Calls Tryd.prog 47 #[.slice none 0 0, .slice sa 0 sc] w (NewPost w []) := by
  have e1 : min (0 : Int) 4096 = 0 := by omega
  go_enter Tryd.func47, Tryd.ntmps47
  go_wp2_with (refine wpList_append_none rfl _ _ rfl sa sc rfl rfl ?_)
  refine of_hid ?_
  go_wp2_with fail
  refine (num_c (.slice none 0 0) w.heap.size [] 0 w (Or.inl ⟨rfl, rfl⟩) (Nat.le_refl _) (by omega) (by simp)).mono ?_
  rintro e w2 ⟨v, rfl, hb, hB⟩
  have h6 := numL_six 0 (by omega)
  have hp := numL_pos 0
  rcases hb with ⟨_, h0⟩ | ⟨vb, vc, rfl, hvb, hvd⟩
  · rw [List.nil_append] at h0
    rw [h0] at hp
    exact absurd hp (by simp)
  rw [List.nil_append] at hvd
  have HV := hide hvd
  have HB := hide hB
  clear hvd hB
  simp only [List.nil_append]
  go_wp2_with fail
  refine (insert_nil vb (numL 0).length vc w.heap.size (numL 0) w2 HV.out hp HB.out.size (by omega)).mono ?_
  rintro e w3 ⟨v', rfl, hbuf, hB3⟩
  have HP : Hid (NewPost w [] (.returned v') w3) := by
    rcases hbuf with ⟨_, h0⟩ | ⟨g, cap, rfl, h2, h3⟩
    · rw [h0] at hp
      exact absurd hp (by simp)
    · exact hide ⟨g, _, cap, rfl, h2, by simpa using h3, HB.out.trans hB3⟩
  clear hbuf hB3
  go_wp2
  go_ret
  exact HP.out
theorem text_nil (k sc : Nat) (sa : Option Addr) (S : List Nat) (w : World) (hs : SrcB w sa k S) (hsc : k ≤ sc) (hscm : sc ≤ 9223372036854775807) (hl : k ≤ 4096) (hn : sa = none → k = 0) :
    Calls Tryd.prog 47 #[.slice none 0 0, .slice sa k sc] w (NewPost w S) := by
  by_cases h0 : k = 0
  · subst h0
    obtain rfl : S = [] := List.length_eq_zero_iff.1 hs.1
    exact text_zero sc sa w hscm
  · exact text_new k sc sa S w hs hsc hscm (by omega) hl hn
end Go.Proofs.YtpaijhmbfljfmaaDoor.Il
/- errors.As and errors.Is at the errors of the program: an Errno, a Fault that wraps one; what the listed variable errors.errorType gives. -/
namespace Go.Proofs.YtpaijhmbfljfmaaDoor.Er
set_option linter.unusedVariables false
set_option linter.unusedSimpArgs false
set_option maxRecDepth 100000
open Go.RowKit Go.Extern.Stop Go.Stop Go.Extern
open Go.Proofs.YtpaijhmbfljfmaaDoor.Wu

/-- The variable errors.errorType as the program's text lays it. -/
def Et (w : World) : Prop := w.cell? ⟨2, 0, none⟩ = some (.iface 160 (.agg #[.pointer (some ⟨6, 53, none⟩)]))
theorem Et.below {w w' : World} {N : Nat} (h : Et w) (hb : Below N w w') (hN : w.heap.size ≤ N) : Et w' := keepC hb hN h

theorem valueOfE (t : Addr) (w : World) : (ReflectliteValue.unpack (.iface 154 (.pointer (some t)))).run Tryd.prog w
    = .ok (.agg #[.pointer (some ⟨6, 154, none⟩), .pointer (some ⟨w.heap.size, 0, none⟩), .int .u64 150]) (w.alloc (.cells #[.pointer (some t)] 154)) := by kernel_rfl
theorem valueOfF (t : Addr) (w : World) : (ReflectliteValue.unpack (.iface 155 (.pointer (some t)))).run Tryd.prog w
    = .ok (.agg #[.pointer (some ⟨6, 155, none⟩), .pointer (some ⟨w.heap.size, 0, none⟩), .int .u64 150]) (w.alloc (.cells #[.pointer (some t)] 155)) := by kernel_rfl
theorem valueOfErrno (n : Int) (w : World) : (ReflectliteValue.unpack (.iface 39 (.int .i64 n))).run Tryd.prog w
    = .ok (.agg #[.pointer (some ⟨6, 39, none⟩), .pointer (some ⟨w.heap.size, 0, none⟩), .int .u64 130]) (w.alloc (.cells #[.int .i64 n] 39)) := by kernel_rfl
theorem valueOfFault (p : Addr) (w : World) : (ReflectliteValue.unpack (.iface 112 (.pointer (some p)))).run Tryd.prog w
    = .ok (.agg #[.pointer (some ⟨6, 112, none⟩), .pointer (some ⟨w.heap.size, 0, none⟩), .int .u64 150]) (w.alloc (.cells #[.pointer (some p)] 112)) := by kernel_rfl
theorem typeE (a : Addr) (w : World) : (ReflectliteValue.methodAny (ReflectliteValue.valueError "reflectlite.Value.Type" 0) (fun t _ _ _ => ReflectliteType.toType t) #[.agg #[.pointer (some ⟨6, 154, none⟩), .pointer (some a), .int .u64 150]]).run Tryd.prog w
    = .ok (.iface 160 (.agg #[.pointer (some ⟨6, 154, none⟩)])) w := by kernel_rfl
theorem typeF (a : Addr) (w : World) : (ReflectliteValue.methodAny (ReflectliteValue.valueError "reflectlite.Value.Type" 0) (fun t _ _ _ => ReflectliteType.toType t) #[.agg #[.pointer (some ⟨6, 155, none⟩), .pointer (some a), .int .u64 150]]).run Tryd.prog w
    = .ok (.iface 160 (.agg #[.pointer (some ⟨6, 155, none⟩)])) w := by kernel_rfl
theorem methodKind (h : Value) (w : World) : (Go.method 338 160 (.agg #[h]) "Kind").run Tryd.prog w = .ok (167, h) w := by kernel_rfl
theorem methodElem (h : Value) (w : World) : (Go.method 338 160 (.agg #[h]) "Elem").run Tryd.prog w = .ok (178, .agg #[h]) w := by kernel_rfl
theorem methodImplements (h : Value) (w : World) : (Go.method 338 160 (.agg #[h]) "Implements").run Tryd.prog w = .ok (179, .agg #[h]) w := by kernel_rfl
theorem methodAssignableTo (h : Value) (w : World) : (Go.method 338 160 (.agg #[h]) "AssignableTo").run Tryd.prog w = .ok (176, .agg #[h]) w := by kernel_rfl
theorem kindPE (w : World) : ((ReflectliteType.abiMethod fun t => (fun a : Nat => Value.int IntKind.u8 (a : Int)) <$> Rtype.kind t) #[.pointer (some ⟨6, 154, none⟩)]).run Tryd.prog w = .ok (.int .u8 22) w := by kernel_rfl
theorem kindPF (w : World) : ((ReflectliteType.abiMethod fun t => (fun a : Nat => Value.int IntKind.u8 (a : Int)) <$> Rtype.kind t) #[.pointer (some ⟨6, 155, none⟩)]).run Tryd.prog w = .ok (.int .u8 22) w := by kernel_rfl
theorem kindE (w : World) : ((ReflectliteType.abiMethod fun t => (fun a : Nat => Value.int IntKind.u8 (a : Int)) <$> Rtype.kind t) #[.pointer (some ⟨6, 39, none⟩)]).run Tryd.prog w = .ok (.int .u8 2) w := by kernel_rfl
theorem kindF (w : World) : ((ReflectliteType.abiMethod fun t => (fun a : Nat => Value.int IntKind.u8 (a : Int)) <$> Rtype.kind t) #[.pointer (some ⟨6, 112, none⟩)]).run Tryd.prog w = .ok (.int .u8 22) w := by kernel_rfl
theorem rlm (z : Sem Value) (f : TypeId → Addr → Nat → Nat → Sem Value) (v : Value) :
    ReflectliteValue.method z f #[v] = (do match ← ReflectliteValue.parts v with | none => z | some (t, a, fl) => f t a fl (fl % 32)) := rfl
theorem partsPE (a : Addr) (w : World) : (ReflectliteValue.parts (.agg #[.pointer (some ⟨6, 154, none⟩), .pointer (some a), .int .u64 150])).run Tryd.prog w = .ok (some (154, a, 150)) w := by kernel_rfl
theorem partsPF (a : Addr) (w : World) : (ReflectliteValue.parts (.agg #[.pointer (some ⟨6, 155, none⟩), .pointer (some a), .int .u64 150])).run Tryd.prog w = .ok (some (155, a, 150)) w := by kernel_rfl
theorem isNilE (a p : Addr) (W : World) (ha : W.cell? a = some (.pointer (some p))) :
    (ReflectliteValue.method (ReflectliteValue.valueError "reflectlite.Value.IsNil" 0) ReflectliteValue.isNil #[.agg #[.pointer (some ⟨6, 154, none⟩), .pointer (some a), .int .u64 150]]).run Tryd.prog W = .ok (.bool false) W := by
  rw [rlm]
  simp only [Sem.run_bind, partsPE, Result.andThen]
  simp [ReflectliteValue.isNil, loadVar, isAgg, underlying, Tryd.underlying154, ha, Result.andThen]
theorem isNilF (a p : Addr) (W : World) (ha : W.cell? a = some (.pointer (some p))) :
    (ReflectliteValue.method (ReflectliteValue.valueError "reflectlite.Value.IsNil" 0) ReflectliteValue.isNil #[.agg #[.pointer (some ⟨6, 155, none⟩), .pointer (some a), .int .u64 150]]).run Tryd.prog W = .ok (.bool false) W := by
  rw [rlm]
  simp only [Sem.run_bind, partsPF, Result.andThen]
  simp [ReflectliteValue.isNil, loadVar, isAgg, underlying, Tryd.underlying155, ha, Result.andThen]
theorem elemE (w : World) : (ReflectliteType.method ReflectliteType.elem #[.agg #[.pointer (some ⟨6, 154, none⟩)]]).run Tryd.prog w = .ok (.iface 160 (.agg #[.pointer (some ⟨6, 39, none⟩)])) w := by kernel_rfl
theorem elemF (w : World) : (ReflectliteType.method ReflectliteType.elem #[.agg #[.pointer (some ⟨6, 155, none⟩)]]).run Tryd.prog w = .ok (.iface 160 (.agg #[.pointer (some ⟨6, 112, none⟩)])) w := by kernel_rfl
theorem implE (w : World) : (ReflectliteType.relation "Implements" ReflectliteType.implements_ #[.agg #[.pointer (some ⟨6, 39, none⟩)], .iface 160 (.agg #[.pointer (some ⟨6, 53, none⟩)])]).run Tryd.prog w = .ok (.bool true) w := by kernel_rfl
theorem implF (w : World) : (ReflectliteType.relation "Implements" ReflectliteType.implements_ #[.agg #[.pointer (some ⟨6, 112, none⟩)], .iface 160 (.agg #[.pointer (some ⟨6, 53, none⟩)])]).run Tryd.prog w = .ok (.bool true) w := by kernel_rfl
theorem typeOfE (v : Value) (w : World) : (ReflectliteType.typeOf #[.iface 39 v]).run Tryd.prog w = .ok (.iface 160 (.agg #[.pointer (some ⟨6, 39, none⟩)])) w := by kernel_rfl
theorem typeOfF (v : Value) (w : World) : (ReflectliteType.typeOf #[.iface 112 v]).run Tryd.prog w = .ok (.iface 160 (.agg #[.pointer (some ⟨6, 112, none⟩)])) w := by kernel_rfl
theorem asgEE (w : World) : (ReflectliteType.relation "AssignableTo" ReflectliteType.assignableTo #[.agg #[.pointer (some ⟨6, 39, none⟩)], .iface 160 (.agg #[.pointer (some ⟨6, 39, none⟩)])]).run Tryd.prog w = .ok (.bool true) w := by kernel_rfl
theorem asgFF (w : World) : (ReflectliteType.relation "AssignableTo" ReflectliteType.assignableTo #[.agg #[.pointer (some ⟨6, 112, none⟩)], .iface 160 (.agg #[.pointer (some ⟨6, 112, none⟩)])]).run Tryd.prog w = .ok (.bool true) w := by kernel_rfl
theorem asgFE (w : World) : (ReflectliteType.relation "AssignableTo" ReflectliteType.assignableTo #[.agg #[.pointer (some ⟨6, 112, none⟩)], .iface 160 (.agg #[.pointer (some ⟨6, 39, none⟩)])]).run Tryd.prog w = .ok (.bool false) w := by kernel_rfl
theorem asgEF (w : World) : (ReflectliteType.relation "AssignableTo" ReflectliteType.assignableTo #[.agg #[.pointer (some ⟨6, 39, none⟩)], .iface 160 (.agg #[.pointer (some ⟨6, 112, none⟩)])]).run Tryd.prog w = .ok (.bool false) w := by kernel_rfl
theorem elemOfE (w : World) : (Rtype.elem? 154).run Tryd.prog w = .ok (some 39) w := by kernel_rfl
theorem elemOfF (w : World) : (Rtype.elem? 155).run Tryd.prog w = .ok (some 112) w := by kernel_rfl
theorem mkE (p : Addr) (w : World) : (ReflectliteValue.mk 39 p ReflectliteValue.flagAddr).run Tryd.prog w = .ok (.agg #[.pointer (some ⟨6, 39, none⟩), .pointer (some p), .int .u64 386]) w := by kernel_rfl
theorem mkF (p : Addr) (w : World) : (ReflectliteValue.mk 112 p ReflectliteValue.flagAddr).run Tryd.prog w = .ok (.agg #[.pointer (some ⟨6, 112, none⟩), .pointer (some p), .int .u64 406]) w := by kernel_rfl
theorem elemVE (a p : Addr) (W : World) (ha : W.cell? a = some (.pointer (some p))) :
    (ReflectliteValue.method (ReflectliteValue.valueError "reflectlite.Value.Elem" 0) ReflectliteValue.elem #[.agg #[.pointer (some ⟨6, 154, none⟩), .pointer (some a), .int .u64 150]]).run Tryd.prog W
      = .ok (.agg #[.pointer (some ⟨6, 39, none⟩), .pointer (some p), .int .u64 386]) W := by
  rw [rlm]
  simp only [Sem.run_bind, partsPE, Result.andThen]
  simp [ReflectliteValue.elem, loadVar, isAgg, underlying, Tryd.underlying154, ha, Result.andThen, elemOfE, mkE]
theorem elemVF (a p : Addr) (W : World) (ha : W.cell? a = some (.pointer (some p))) :
    (ReflectliteValue.method (ReflectliteValue.valueError "reflectlite.Value.Elem" 0) ReflectliteValue.elem #[.agg #[.pointer (some ⟨6, 155, none⟩), .pointer (some a), .int .u64 150]]).run Tryd.prog W
      = .ok (.agg #[.pointer (some ⟨6, 112, none⟩), .pointer (some p), .int .u64 406]) W := by
  rw [rlm]
  simp only [Sem.run_bind, partsPF, Result.andThen]
  simp [ReflectliteValue.elem, loadVar, isAgg, underlying, Tryd.underlying155, ha, Result.andThen, elemOfF, mkF]
theorem rls (v x : Value) : ReflectliteValue.set #[v, x] = (do
    let (some (dst, a, fl), some (src, b, _)) := (← ReflectliteValue.parts v, ← ReflectliteValue.parts x)
      | unsupported (.noEntry "extern/(internal/reflectlite.Value).Set.zeroValue")
    if fl / ReflectliteValue.flagAddr % 2 == 0 then unsupported (.noEntry "extern/(internal/reflectlite.Value).Set.unaddressable")
    let val ← loadVar src b
    if ← Rtype.directlyAssignable dst src then storeVar dst a val
    else if ← Rtype.implements dst src then
      if (← Rtype.kind src) == 20 then
        match val with
        | .nilIface => unsupported (.noEntry "extern/reflectlite: a nil value of one interface type handed on as a value of another")
        | _ => storeVar dst a val
      else storeVar dst a (.iface src val)
    else panicString ("reflectlite.Set: value of type " ++ (← Rtype.spelt src) ++ " is not assignable to type " ++ (← Rtype.spelt dst))
    pure (.tuple #[])) := rfl
theorem partsEa (a : Addr) (w : World) : (ReflectliteValue.parts (.agg #[.pointer (some ⟨6, 39, none⟩), .pointer (some a), .int .u64 386])).run Tryd.prog w = .ok (some (39, a, 386)) w := by kernel_rfl
theorem partsE (a : Addr) (w : World) : (ReflectliteValue.parts (.agg #[.pointer (some ⟨6, 39, none⟩), .pointer (some a), .int .u64 130])).run Tryd.prog w = .ok (some (39, a, 130)) w := by kernel_rfl
theorem directE (w : World) : (Rtype.directlyAssignable 39 39).run Tryd.prog w = .ok true w := by kernel_rfl
theorem partsFa (a : Addr) (w : World) : (ReflectliteValue.parts (.agg #[.pointer (some ⟨6, 112, none⟩), .pointer (some a), .int .u64 406])).run Tryd.prog w = .ok (some (112, a, 406)) w := by kernel_rfl
theorem partsF (a : Addr) (w : World) : (ReflectliteValue.parts (.agg #[.pointer (some ⟨6, 112, none⟩), .pointer (some a), .int .u64 150])).run Tryd.prog w = .ok (some (112, a, 150)) w := by kernel_rfl
theorem directF (w : World) : (Rtype.directlyAssignable 112 112).run Tryd.prog w = .ok true w := by kernel_rfl
theorem setE (ta b : Addr) (n : Int) (old : Value) (W : World) (hb : W.cell? b = some (.int .i64 n)) (ht : W.cell? ta = some old) (hf : W.frozen? ta = false) :
    (ReflectliteValue.set #[.agg #[.pointer (some ⟨6, 39, none⟩), .pointer (some ta), .int .u64 386], .agg #[.pointer (some ⟨6, 39, none⟩), .pointer (some b), .int .u64 130]]).run Tryd.prog W
      = .ok (.tuple #[]) (W.setCell ta (.int .i64 n)) := by
  rw [rls]
  simp only [Sem.run_bind, partsEa, partsE, Result.andThen]
  simp [ReflectliteValue.flagAddr, loadVar, isAgg, underlying, Tryd.underlying39, hb, Result.andThen, directE, storeVar, Value.cells, storeCells, Addr.add]
  rw [run_store Tryd.prog W ta _ _ (by rfl)]
  simp [ht, hf]
theorem setF (ta b e : Addr) (old : Value) (W : World) (hb : W.cell? b = some (.pointer (some e))) (ht : W.cell? ta = some old) (hf : W.frozen? ta = false) :
    (ReflectliteValue.set #[.agg #[.pointer (some ⟨6, 112, none⟩), .pointer (some ta), .int .u64 406], .agg #[.pointer (some ⟨6, 112, none⟩), .pointer (some b), .int .u64 150]]).run Tryd.prog W
      = .ok (.tuple #[]) (W.setCell ta (.pointer (some e))) := by
  rw [rls]
  simp only [Sem.run_bind, partsFa, partsF, Result.andThen]
  simp [ReflectliteValue.flagAddr, loadVar, isAgg, underlying, Tryd.underlying112, hb, Result.andThen, directF, storeVar, Value.cells, storeCells, Addr.add]
  rw [run_store Tryd.prog W ta _ _ (by rfl)]
  simp [ht, hf]
theorem noAsE (v : Value) (xT : TypeId) (w : World) : (Instr.typeAssert (.iface 39 v) xT 200 true).run Tryd.prog w = .ok (.tuple #[.nilIface, .bool false]) w := run_typeAssert_lacksB Tryd.underlying200 (by kernel_rfl) (by kernel_rfl) v xT w
theorem noAsF (v : Value) (xT : TypeId) (w : World) : (Instr.typeAssert (.iface 112 v) xT 200 true).run Tryd.prog w = .ok (.tuple #[.nilIface, .bool false]) w := run_typeAssert_lacksB Tryd.underlying200 (by kernel_rfl) (by kernel_rfl) v xT w
theorem hasUnwrapF (v : Value) (xT : TypeId) (w : World) : (Instr.typeAssert (.iface 112 v) xT 165 true).run Tryd.prog w = .ok (.tuple #[.iface 112 v, .bool true]) w := run_typeAssert_hasB Tryd.underlying165 (by kernel_rfl) v xT w
theorem noUnwrapE (v : Value) (xT : TypeId) (w : World) : (Instr.typeAssert (.iface 39 v) xT 165 true).run Tryd.prog w = .ok (.tuple #[.nilIface, .bool false]) w := run_typeAssert_lacksB Tryd.underlying165 (by kernel_rfl) (by kernel_rfl) v xT w
theorem noUnwrapsE (v : Value) (xT : TypeId) (w : World) : (Instr.typeAssert (.iface 39 v) xT 166 true).run Tryd.prog w = .ok (.tuple #[.nilIface, .bool false]) w := run_typeAssert_lacksB Tryd.underlying166 (by kernel_rfl) (by kernel_rfl) v xT w
theorem methodUnwrap (v : Value) (w : World) : (Go.method 338 112 v "Unwrap").run Tryd.prog w = .ok (173, v) w := by kernel_rfl
theorem xValueOf (args : Array Value) (w : World) : (callFunc 120 args).run Tryd.prog w = (((fun args => ReflectliteValue.unpack (args.getD 0 (.tuple #[]))) args).run Tryd.prog w).andThen fun v w' => .ok (.value v) w' := run_callFunc_extern (e := (fun args => ReflectliteValue.unpack (args.getD 0 (.tuple #[])))) Tryd.func120 (by kernel_rfl) (by kernel_rfl) (by kernel_rfl) (by kernel_rfl) args w
theorem xType (args : Array Value) (w : World) : (callFunc 121 args).run Tryd.prog w = (((ReflectliteValue.methodAny (ReflectliteValue.valueError "reflectlite.Value.Type" 0) (fun t _ _ _ => ReflectliteType.toType t)) args).run Tryd.prog w).andThen fun v w' => .ok (.value v) w' := run_callFunc_extern (e := (ReflectliteValue.methodAny (ReflectliteValue.valueError "reflectlite.Value.Type" 0) (fun t _ _ _ => ReflectliteType.toType t))) Tryd.func121 (by kernel_rfl) (by kernel_rfl) (by kernel_rfl) (by kernel_rfl) args w
theorem xIsNil (args : Array Value) (w : World) : (callFunc 122 args).run Tryd.prog w = (((ReflectliteValue.method (ReflectliteValue.valueError "reflectlite.Value.IsNil" 0) ReflectliteValue.isNil) args).run Tryd.prog w).andThen fun v w' => .ok (.value v) w' := run_callFunc_extern (e := (ReflectliteValue.method (ReflectliteValue.valueError "reflectlite.Value.IsNil" 0) ReflectliteValue.isNil)) Tryd.func122 (by kernel_rfl) (by kernel_rfl) (by kernel_rfl) (by kernel_rfl) args w
theorem xKind (args : Array Value) (w : World) : (callFunc 167 args).run Tryd.prog w = (((ReflectliteType.abiMethod fun t => do pure (.int .u8 (← Rtype.kind t))) args).run Tryd.prog w).andThen fun v w' => .ok (.value v) w' := run_callFunc_extern (e := (ReflectliteType.abiMethod fun t => do pure (.int .u8 (← Rtype.kind t)))) Tryd.func167 (by kernel_rfl) (by kernel_rfl) (by kernel_rfl) (by kernel_rfl) args w
theorem xElem (args : Array Value) (w : World) : (callFunc 178 args).run Tryd.prog w = (((ReflectliteType.method ReflectliteType.elem) args).run Tryd.prog w).andThen fun v w' => .ok (.value v) w' := run_callFunc_extern (e := (ReflectliteType.method ReflectliteType.elem)) Tryd.func178 (by kernel_rfl) (by kernel_rfl) (by kernel_rfl) (by kernel_rfl) args w
theorem xImpl (args : Array Value) (w : World) : (callFunc 179 args).run Tryd.prog w = (((ReflectliteType.relation "Implements" ReflectliteType.implements_) args).run Tryd.prog w).andThen fun v w' => .ok (.value v) w' := run_callFunc_extern (e := (ReflectliteType.relation "Implements" ReflectliteType.implements_)) Tryd.func179 (by kernel_rfl) (by kernel_rfl) (by kernel_rfl) (by kernel_rfl) args w
theorem xTypeOf (args : Array Value) (w : World) : (callFunc 75 args).run Tryd.prog w = ((ReflectliteType.typeOf args).run Tryd.prog w).andThen fun v w' => .ok (.value v) w' := run_callFunc_extern (e := ReflectliteType.typeOf) Tryd.func75 (by kernel_rfl) (by kernel_rfl) (by kernel_rfl) (by kernel_rfl) args w
theorem xAssg (args : Array Value) (w : World) : (callFunc 176 args).run Tryd.prog w = (((ReflectliteType.relation "AssignableTo" ReflectliteType.assignableTo) args).run Tryd.prog w).andThen fun v w' => .ok (.value v) w' := run_callFunc_extern (e := (ReflectliteType.relation "AssignableTo" ReflectliteType.assignableTo)) Tryd.func176 (by kernel_rfl) (by kernel_rfl) (by kernel_rfl) (by kernel_rfl) args w
theorem xVElem (args : Array Value) (w : World) : (callFunc 137 args).run Tryd.prog w = (((ReflectliteValue.method (ReflectliteValue.valueError "reflectlite.Value.Elem" 0) ReflectliteValue.elem) args).run Tryd.prog w).andThen fun v w' => .ok (.value v) w' := run_callFunc_extern (e := (ReflectliteValue.method (ReflectliteValue.valueError "reflectlite.Value.Elem" 0) ReflectliteValue.elem)) Tryd.func137 (by kernel_rfl) (by kernel_rfl) (by kernel_rfl) (by kernel_rfl) args w
theorem xSet (args : Array Value) (w : World) : (callFunc 138 args).run Tryd.prog w = ((ReflectliteValue.set args).run Tryd.prog w).andThen fun v w' => .ok (.value v) w' := run_callFunc_extern (e := ReflectliteValue.set) Tryd.func138 (by kernel_rfl) (by kernel_rfl) (by kernel_rfl) (by kernel_rfl) args w
end Go.Proofs.YtpaijhmbfljfmaaDoor.Er
/- errors.as, errors.As at an Errno, at a Fault: what they find. -/
namespace Go.Proofs.YtpaijhmbfljfmaaDoor.Es
set_option linter.unusedVariables false
set_option linter.unusedSimpArgs false
set_option maxRecDepth 100000
open Go.RowKit Go.Extern.Stop Go.Stop Go.Extern
open Go.Proofs.YtpaijhmbfljfmaaDoor.Wu Go.Proofs.YtpaijhmbfljfmaaDoor.Er

/-- The target's Value, in a variable of its own. -/
abbrev vE (a : Addr) : Value := .agg #[.pointer (some ⟨6, 154, none⟩), .pointer (some a), .int .u64 150]
abbrev vF (a : Addr) : Value := .agg #[.pointer (some ⟨6, 155, none⟩), .pointer (some a), .int .u64 150]
abbrev tE : Value := .iface 160 (.agg #[.pointer (some ⟨6, 39, none⟩)])
abbrev tF : Value := .iface 160 (.agg #[.pointer (some ⟨6, 112, none⟩)])
abbrev oE (a : Addr) : Obj := .cells #[.pointer (some ⟨6, 154, none⟩), .pointer (some a), .int .u64 150] 186
abbrev oF (a : Addr) : Obj := .cells #[.pointer (some ⟨6, 155, none⟩), .pointer (some a), .int .u64 150] 186

set_option maxHeartbeats 4000000 in
theorem in_EE (n : Int) (t a : Addr) (x old : Value) (w : World) (ha : w.cell? a = some (.pointer (some t))) (ht : w.cell? t = some old) (hf : w.frozen? t = false) :
    Calls Tryd.prog 123 #[.iface 39 (.int .i64 n), x, vE a, tE] w fun ev w' => ev = .returned (.bool true) ∧ w' = ((w.alloc (oE a)).alloc (.cells #[.int .i64 n] 39)).setCell t (.int .i64 n) := by
  have hal := cell_lt ha
  have htl := cell_lt ht
  have x1 := xTypeOf
  have x2 := xAssg
  have x3 := xVElem
  have x4 := xValueOf
  have x5 := xSet
  have y1 := typeOfE
  have y2 := methodAssignableTo
  have y3 := asgEE
  have y4 := valueOfErrno
  have y5 := elemVE a t (w.alloc (oE a)) (by rw [World.cell?_alloc_lt _ _ a hal]; exact ha)
  have y6 := setE t ⟨w.heap.size + 1, 0, none⟩ n old ((w.alloc (oE a)).alloc (.cells #[.int .i64 n] 39))
    (by rw [World.cell?_alloc_at _ _ _ _ (by simp)]; rfl)
    (by rw [World.cell?_alloc_lt _ _ t (by simp; omega), World.cell?_alloc_lt _ _ t htl]; exact ht)
    (by rw [World.frozen?_alloc_old _ _ t (by simp; omega), World.frozen?_alloc_old _ _ t (Nat.ne_of_lt htl)]; exact hf)
  clear ha ht hf
  go_enter Tryd.func123, Tryd.ntmps123
  go_wp2
  refine wp_loop_rounds 1 ?_
  rw [rounds_succ]
  go_wp2
  go_ret
  exact ⟨rfl, rfl⟩
set_option maxHeartbeats 4000000 in
theorem in_FF (e t a : Addr) (x old : Value) (w : World) (ha : w.cell? a = some (.pointer (some t))) (ht : w.cell? t = some old) (hf : w.frozen? t = false) :
    Calls Tryd.prog 123 #[.iface 112 (.pointer (some e)), x, vF a, tF] w fun ev w' => ev = .returned (.bool true) ∧ w' = ((w.alloc (oF a)).alloc (.cells #[.pointer (some e)] 112)).setCell t (.pointer (some e)) := by
  have hal := cell_lt ha
  have htl := cell_lt ht
  have x1 := xTypeOf
  have x2 := xAssg
  have x3 := xVElem
  have x4 := xValueOf
  have x5 := xSet
  have y1 := typeOfF
  have y2 := methodAssignableTo
  have y3 := asgFF
  have y4 := valueOfFault
  have y5 := elemVF a t (w.alloc (oF a)) (by rw [World.cell?_alloc_lt _ _ a hal]; exact ha)
  have y6 := setF t ⟨w.heap.size + 1, 0, none⟩ e old ((w.alloc (oF a)).alloc (.cells #[.pointer (some e)] 112))
    (by rw [World.cell?_alloc_at _ _ _ _ (by simp)]; rfl)
    (by rw [World.cell?_alloc_lt _ _ t (by simp; omega), World.cell?_alloc_lt _ _ t htl]; exact ht)
    (by rw [World.frozen?_alloc_old _ _ t (by simp; omega), World.frozen?_alloc_old _ _ t (Nat.ne_of_lt htl)]; exact hf)
  clear ha ht hf
  go_enter Tryd.func123, Tryd.ntmps123
  go_wp2
  refine wp_loop_rounds 1 ?_
  rw [rounds_succ]
  go_wp2
  go_ret
  exact ⟨rfl, rfl⟩
set_option maxHeartbeats 4000000 in
theorem in_EF (n : Int) (a : Addr) (x : Value) (w : World) :
    Calls Tryd.prog 123 #[.iface 39 (.int .i64 n), x, vF a, tF] w fun ev w' => ev = .returned (.bool false) ∧ w' = w.alloc (oF a) := by
  have x1 := xTypeOf
  have x2 := xAssg
  have y1 := typeOfE
  have y2 := methodAssignableTo
  have y3 := asgEF
  have y4 := noAsE
  have y5 := noUnwrapE
  have y6 := noUnwrapsE
  go_enter Tryd.func123, Tryd.ntmps123
  go_wp2
  refine wp_loop_rounds 1 ?_
  rw [rounds_succ]
  go_wp2
  go_ret
  exact ⟨rfl, rfl⟩
theorem unwrap_c (b : Nat) (at_ n : Int) (T : TypeId) (f : Nat × Nat) (w : World) (h : w.heap[b]? = some (.cells #[.int .i64 at_, .int .i64 n] T f)) :
    Calls Tryd.prog 173 #[.pointer (some ⟨b, 0, none⟩)] w fun e w' => e = .returned (.iface 39 (.int .i64 n)) ∧ w' = w := by
  have c1 : w.cell? ⟨b, 1, none⟩ = some (.int .i64 n) := blk_cell h rfl
  clear h
  go_enter Tryd.func173, Tryd.ntmps173
  go_wp2
  go_ret
  exact ⟨rfl, rfl⟩
set_option maxHeartbeats 4000000 in
theorem in_FE (b : Nat) (at_ n : Int) (T : TypeId) (f : Nat × Nat) (t a : Addr) (x old : Value) (w : World) (hb : w.heap[b]? = some (.cells #[.int .i64 at_, .int .i64 n] T f)) (ha : w.cell? a = some (.pointer (some t))) (ht : w.cell? t = some old) (hf : w.frozen? t = false) :
    Calls Tryd.prog 123 #[.iface 112 (.pointer (some ⟨b, 0, none⟩)), x, vE a, tE] w fun ev w' => ev = .returned (.bool true) ∧ w' = ((w.alloc (oE a)).alloc (.cells #[.int .i64 n] 39)).setCell t (.int .i64 n) := by
  have hal := cell_lt ha
  have htl := cell_lt ht
  have HU := hide (unwrap_c b at_ n T f (w.alloc (oE a)) (heap_old hb _))
  have x1 := xTypeOf
  have x2 := xAssg
  have x3 := xVElem
  have x4 := xValueOf
  have x5 := xSet
  have y0 := typeOfF
  have y1 := typeOfE
  have y2 := methodAssignableTo
  have y3 := asgEE
  have z3 := asgFE
  have z4 := noAsF
  have z5 := hasUnwrapF
  have z6 := methodUnwrap
  have y4 := valueOfErrno
  have y5 := elemVE a t (w.alloc (oE a)) (by rw [World.cell?_alloc_lt _ _ a hal]; exact ha)
  have y6 := setE t ⟨w.heap.size + 1, 0, none⟩ n old ((w.alloc (oE a)).alloc (.cells #[.int .i64 n] 39))
    (by rw [World.cell?_alloc_at _ _ _ _ (by simp)]; rfl)
    (by rw [World.cell?_alloc_lt _ _ t (by simp; omega), World.cell?_alloc_lt _ _ t htl]; exact ht)
    (by rw [World.frozen?_alloc_old _ _ t (by simp; omega), World.frozen?_alloc_old _ _ t (Nat.ne_of_lt htl)]; exact hf)
  clear ha ht hf hb
  go_enter Tryd.func123, Tryd.ntmps123
  go_wp2
  refine wp_loop_rounds 2 ?_
  rw [rounds_succ]
  go_wp2_with fail
  refine HU.out.mono ?_
  rintro e w' ⟨rfl, rfl⟩
  go_wp2
  rw [rounds_succ]
  go_wp2
  go_ret
  exact ⟨rfl, rfl⟩
end Go.Proofs.YtpaijhmbfljfmaaDoor.Es
/- errors.As, the program's 'found', Number and Place at the errors that the program makes. -/
namespace Go.Proofs.YtpaijhmbfljfmaaDoor.Et
set_option linter.unusedVariables false
set_option linter.unusedSimpArgs false
set_option maxRecDepth 100000
open Go.RowKit Go.Extern.Stop Go.Stop Go.Extern
open Go.Proofs.YtpaijhmbfljfmaaDoor.Wu Go.Proofs.YtpaijhmbfljfmaaDoor.Er Go.Proofs.YtpaijhmbfljfmaaDoor.Es

/-- What errors.As leaves: the target set to v. -/
def Hit (w : World) (t : Addr) (v : Value) (e : Ending) (w' : World) : Prop := e = .returned (.bool true) ∧ ∃ w1, Below w.heap.size w w1 ∧ w' = w1.setCell t v
def Miss (w : World) (e : Ending) (w' : World) : Prop := e = .returned (.bool false) ∧ Below w.heap.size w w'
theorem as_nil (t : Value) (w : World) : Calls Tryd.prog 101 #[.nilIface, t] w (Miss w) := by
  go_enter Tryd.func101, Tryd.ntmps101
  go_wp2
  go_ret
  exact ⟨rfl, Below.refl _ _⟩
set_option maxHeartbeats 4000000 in
theorem as_EE (n : Int) (t : Addr) (old : Value) (w : World) (he : Et w) (ht : w.cell? t = some old) (hf : w.frozen? t = false) :
    Calls Tryd.prog 101 #[.iface 39 (.int .i64 n), .iface 154 (.pointer (some t))] w (Hit w t (.int .i64 n)) := by
  have htl := cell_lt ht
  have hel : 2 < w.heap.size := cell_lt he
  have x1 := xValueOf
  have x2 := xType
  have x3 := xKind
  have x4 := xIsNil
  have x5 := xElem
  have x6 := xImpl
  have y1 := valueOfE t
  have y2 := typeE
  have y3 := methodKind
  have y4 := kindPE
  have y5 := isNilE ⟨w.heap.size, 0, none⟩ t ((w.alloc (.cells #[.pointer (some t)] 154)).alloc (oE ⟨w.heap.size, 0, none⟩)) (by simp)
  have y6 := methodElem
  have y7 := elemE
  have y8 := kindE
  have y9 := methodImplements
  have y10 := implE
  have hg2 : ((w.alloc (.cells #[.pointer (some t)] 154)).alloc (oE ⟨w.heap.size, 0, none⟩)).cell? ⟨2, 0, none⟩ = some (.iface 160 (.agg #[.pointer (some ⟨6, 53, none⟩)])) := by
    rw [World.cell?_alloc_lt _ _ ⟨2, 0, none⟩ (by simp; omega), World.cell?_alloc_lt _ _ ⟨2, 0, none⟩ hel]; exact he
  have HI := hide (in_EE n t ⟨w.heap.size, 0, none⟩ (.iface 154 (.pointer (some t))) old ((w.alloc (.cells #[.pointer (some t)] 154)).alloc (oE ⟨w.heap.size, 0, none⟩)) (by simp)
    (by rw [World.cell?_alloc_lt _ _ t (by simp; omega), World.cell?_alloc_lt _ _ t htl]; exact ht) (by rw [World.frozen?_alloc_old _ _ t (by simp; omega), World.frozen?_alloc_old _ _ t (Nat.ne_of_lt htl)]; exact hf))
  clear ht hf he
  go_enter Tryd.func101, Tryd.ntmps101
  go_wp2_with fail
  refine HI.out.mono ?_
  rintro e w' ⟨rfl, rfl⟩
  go_wp2
  go_ret
  exact ⟨rfl, _, ((((Below.refl _ w).alloc (Nat.le_refl _) _).alloc (by simp) _).alloc (by simp; omega) _).alloc (by simp; omega) _, rfl⟩
set_option maxHeartbeats 4000000 in
theorem as_FE (b : Nat) (at_ n : Int) (T : TypeId) (f : Nat × Nat) (t : Addr) (old : Value) (w : World) (hb : w.heap[b]? = some (.cells #[.int .i64 at_, .int .i64 n] T f)) (he : Et w) (ht : w.cell? t = some old) (hf : w.frozen? t = false) :
    Calls Tryd.prog 101 #[.iface 112 (.pointer (some ⟨b, 0, none⟩)), .iface 154 (.pointer (some t))] w (Hit w t (.int .i64 n)) := by
  have htl := cell_lt ht
  have hel : 2 < w.heap.size := cell_lt he
  have x1 := xValueOf
  have x2 := xType
  have x3 := xKind
  have x4 := xIsNil
  have x5 := xElem
  have x6 := xImpl
  have y1 := valueOfE t
  have y2 := typeE
  have y3 := methodKind
  have y4 := kindPE
  have y5 := isNilE ⟨w.heap.size, 0, none⟩ t ((w.alloc (.cells #[.pointer (some t)] 154)).alloc (oE ⟨w.heap.size, 0, none⟩)) (by simp)
  have y6 := methodElem
  have y7 := elemE
  have y8 := kindE
  have y9 := methodImplements
  have y10 := implE
  have hg2 : ((w.alloc (.cells #[.pointer (some t)] 154)).alloc (oE ⟨w.heap.size, 0, none⟩)).cell? ⟨2, 0, none⟩ = some (.iface 160 (.agg #[.pointer (some ⟨6, 53, none⟩)])) := by
    rw [World.cell?_alloc_lt _ _ ⟨2, 0, none⟩ (by simp; omega), World.cell?_alloc_lt _ _ ⟨2, 0, none⟩ hel]; exact he
  have HI := hide (in_FE b at_ n T f t ⟨w.heap.size, 0, none⟩ (.iface 154 (.pointer (some t))) old ((w.alloc (.cells #[.pointer (some t)] 154)).alloc (oE ⟨w.heap.size, 0, none⟩)) (heap_old (heap_old hb _) _) (by simp)
    (by rw [World.cell?_alloc_lt _ _ t (by simp; omega), World.cell?_alloc_lt _ _ t htl]; exact ht) (by rw [World.frozen?_alloc_old _ _ t (by simp; omega), World.frozen?_alloc_old _ _ t (Nat.ne_of_lt htl)]; exact hf))
  clear ht hf he hb
  go_enter Tryd.func101, Tryd.ntmps101
  go_wp2_with fail
  refine HI.out.mono ?_
  rintro e w' ⟨rfl, rfl⟩
  go_wp2
  go_ret
  exact ⟨rfl, _, ((((Below.refl _ w).alloc (Nat.le_refl _) _).alloc (by simp) _).alloc (by simp; omega) _).alloc (by simp; omega) _, rfl⟩
set_option maxHeartbeats 4000000 in
theorem as_FF (p t : Addr) (old : Value) (w : World) (he : Et w) (ht : w.cell? t = some old) (hf : w.frozen? t = false) :
    Calls Tryd.prog 101 #[.iface 112 (.pointer (some p)), .iface 155 (.pointer (some t))] w (Hit w t (.pointer (some p))) := by
  have htl := cell_lt ht
  have hel : 2 < w.heap.size := cell_lt he
  have x1 := xValueOf
  have x2 := xType
  have x3 := xKind
  have x4 := xIsNil
  have x5 := xElem
  have x6 := xImpl
  have y1 := valueOfF t
  have y2 := typeF
  have y3 := methodKind
  have y4 := kindPF
  have y5 := isNilF ⟨w.heap.size, 0, none⟩ t ((w.alloc (.cells #[.pointer (some t)] 155)).alloc (oF ⟨w.heap.size, 0, none⟩)) (by simp)
  have y6 := methodElem
  have y7 := elemF
  have y8 := kindF
  have y9 := methodImplements
  have y10 := implF
  have hg2 : ((w.alloc (.cells #[.pointer (some t)] 155)).alloc (oF ⟨w.heap.size, 0, none⟩)).cell? ⟨2, 0, none⟩ = some (.iface 160 (.agg #[.pointer (some ⟨6, 53, none⟩)])) := by
    rw [World.cell?_alloc_lt _ _ ⟨2, 0, none⟩ (by simp; omega), World.cell?_alloc_lt _ _ ⟨2, 0, none⟩ hel]; exact he
  have HI := hide (in_FF p t ⟨w.heap.size, 0, none⟩ (.iface 155 (.pointer (some t))) old ((w.alloc (.cells #[.pointer (some t)] 155)).alloc (oF ⟨w.heap.size, 0, none⟩)) (by simp)
    (by rw [World.cell?_alloc_lt _ _ t (by simp; omega), World.cell?_alloc_lt _ _ t htl]; exact ht) (by rw [World.frozen?_alloc_old _ _ t (by simp; omega), World.frozen?_alloc_old _ _ t (Nat.ne_of_lt htl)]; exact hf))
  clear ht hf he
  go_enter Tryd.func101, Tryd.ntmps101
  go_wp2_with fail
  refine HI.out.mono ?_
  rintro e w' ⟨rfl, rfl⟩
  go_wp2
  go_ret
  exact ⟨rfl, _, ((((Below.refl _ w).alloc (Nat.le_refl _) _).alloc (by simp) _).alloc (by simp; omega) _).alloc (by simp; omega) _, rfl⟩
set_option maxHeartbeats 4000000 in
theorem as_EF (n : Int) (t : Addr) (w : World) (he : Et w) :
    Calls Tryd.prog 101 #[.iface 39 (.int .i64 n), .iface 155 (.pointer (some t))] w (Miss w) := by
  have hel : 2 < w.heap.size := cell_lt he
  have x1 := xValueOf
  have x2 := xType
  have x3 := xKind
  have x4 := xIsNil
  have x5 := xElem
  have x6 := xImpl
  have y1 := valueOfF t
  have y2 := typeF
  have y3 := methodKind
  have y4 := kindPF
  have y5 := isNilF ⟨w.heap.size, 0, none⟩ t ((w.alloc (.cells #[.pointer (some t)] 155)).alloc (oF ⟨w.heap.size, 0, none⟩)) (by simp)
  have y6 := methodElem
  have y7 := elemF
  have y8 := kindF
  have y9 := methodImplements
  have y10 := implF
  have hg2 : ((w.alloc (.cells #[.pointer (some t)] 155)).alloc (oF ⟨w.heap.size, 0, none⟩)).cell? ⟨2, 0, none⟩ = some (.iface 160 (.agg #[.pointer (some ⟨6, 53, none⟩)])) := by
    rw [World.cell?_alloc_lt _ _ ⟨2, 0, none⟩ (by simp; omega), World.cell?_alloc_lt _ _ ⟨2, 0, none⟩ hel]; exact he
  have HI := hide (in_EF n ⟨w.heap.size, 0, none⟩ (.iface 155 (.pointer (some t))) ((w.alloc (.cells #[.pointer (some t)] 155)).alloc (oF ⟨w.heap.size, 0, none⟩)))
  clear he
  go_enter Tryd.func101, Tryd.ntmps101
  go_wp2_with fail
  refine HI.out.mono ?_
  rintro e w' ⟨rfl, rfl⟩
  go_wp2
  go_ret
  exact ⟨rfl, (((Below.refl _ w).alloc (Nat.le_refl _) _).alloc (by simp) _).alloc (by simp; omega) _⟩
end Go.Proofs.YtpaijhmbfljfmaaDoor.Et
/- code.Number and code.Place at the errors that the program makes. -/
namespace Go.Proofs.YtpaijhmbfljfmaaDoor.Eu
set_option linter.unusedVariables false
set_option linter.unusedSimpArgs false
set_option maxRecDepth 100000
open Go.RowKit Go.Extern.Stop Go.Stop Go.Extern
open Go.Proofs.YtpaijhmbfljfmaaDoor.Wu Go.Proofs.YtpaijhmbfljfmaaDoor.Er Go.Proofs.YtpaijhmbfljfmaaDoor.Es Go.Proofs.YtpaijhmbfljfmaaDoor.Et Go.Proofs.YtpaijhmbfljfmaaDoor.Rk
attribute [local go_sem] kUpon_value kUpon_skip kUpon_enter

theorem idleE (p : Addr) (w : World) :
    CallsD Tryd.prog 100 #[.pointer (some p)] .returning w fun e u' w' => e = .returned (.tuple #[]) ∧ u' = .returning ∧ w' = w := by
  refine callsD_of_wpS Tryd.func100 rfl fun c₀ cs hu => ?_
  apply wpS_seq
  apply wpS_region
  simp [wpOpsS, go_sem, recoverD, hu, Tryd.ntmps100, Exit.thenS]
  refine wpS_cond (t := false) (by simp [Act.eval, Array.replicate]) ?_
  simp only [Bool.false_eq_true, if_false]
  refine wpS_of_wp (wp_skip ?_)
  cases c₀
  simp_all [bodyPostS, results, Tryd.results100]
theorem idleF (p : Addr) (w : World) :
    CallsD Tryd.prog 102 #[.pointer (some p)] .returning w fun e u' w' => e = .returned (.tuple #[]) ∧ u' = .returning ∧ w' = w := by
  refine callsD_of_wpS Tryd.func102 rfl fun c₀ cs hu => ?_
  apply wpS_seq
  apply wpS_region
  simp [wpOpsS, go_sem, recoverD, hu, Tryd.ntmps102, Exit.thenS]
  refine wpS_cond (t := false) (by simp [Act.eval, Array.replicate]) ?_
  simp only [Bool.false_eq_true, if_false]
  refine wpS_of_wp (wp_skip ?_)
  cases c₀
  simp_all [bodyPostS, results, Tryd.results102]
/-- The target's block and the flag's. -/
structure Fnd (w : World) (v ok : Value) (T : TypeId) (u : World) : Prop where
  t : u.heap[w.heap.size]? = some (.cells #[v] T (0, 0))
  o : u.heap[w.heap.size + 1]? = some (.cells #[ok] 4 (0, 0))
  b : Below w.heap.size w u
theorem Fnd.new (w : World) (v ok : Value) (T : TypeId) : Fnd w v ok T ((w.alloc (.cells #[v] T)).alloc (.cells #[ok] 4)) := ⟨heap_2a _ _ _, heap_2b _ _ _, ((Below.refl _ w).alloc (Nat.le_refl _) _).alloc (by simp) _⟩
theorem Fnd.hit {w u w1 : World} {v x ok : Value} {T : TypeId} (h : Fnd w v ok T u) (hb : Below u.heap.size u w1) : Fnd w x ok T (w1.setCell ⟨w.heap.size, 0, none⟩ x) :=
  ⟨by simpa using blk_set (i := 0) (below_blk hb (heap_lt h.t) h.t) x, blk_set_other (below_blk hb (heap_lt h.o) h.o) (by omega) x, (h.b.trans (hb.mono (h.b.size))).setCell (Nat.le_refl _) _⟩
theorem Fnd.up {w u w1 : World} {v ok : Value} {T : TypeId} (h : Fnd w v ok T u) (hb : Below u.heap.size u w1) : Fnd w v ok T w1 :=
  ⟨below_blk hb (heap_lt h.t) h.t, below_blk hb (heap_lt h.o) h.o, h.b.trans (hb.mono (h.b.size))⟩
theorem Fnd.flag {w u : World} {v x ok : Value} {T : TypeId} (h : Fnd w v ok T u) : Fnd w v x T (u.setCell ⟨w.heap.size + 1, 0, none⟩ x) :=
  ⟨blk_set_other h.t (by omega) x, by simpa using blk_set (i := 0) h.o x, h.b.setCell (show w.heap.size ≤ w.heap.size + 1 by omega) _⟩
theorem Fnd.tag {w u : World} {v x ok : Value} {T : TypeId} (h : Fnd w v ok T u) : Fnd w x ok T (u.setCell ⟨w.heap.size, 0, none⟩ x) :=
  ⟨by simpa using blk_set (i := 0) h.t x, blk_set_other h.o (by omega) x, h.b.setCell (Nat.le_refl _) _⟩
theorem Fnd.drew {w u : World} {v ok : Value} {T : TypeId} (h : Fnd w v ok T u) : Fnd w v ok T u.drew := ⟨h.t, h.o, h.b.drew⟩
theorem Fnd.cells {w u : World} {v ok : Value} {T : TypeId} (h : Fnd w v ok T u) : u.cell? ⟨w.heap.size, 0, none⟩ = some v ∧ u.cell? ⟨w.heap.size + 1, 0, none⟩ = some ok ∧ u.frozen? ⟨w.heap.size, 0, none⟩ = false ∧ u.frozen? ⟨w.heap.size + 1, 0, none⟩ = false := ⟨blk_cell h.t rfl, blk_cell h.o rfl, blk_free h.t, blk_free h.o⟩
/-- What 'found' answers. -/
def FoundPost (w : World) (v : Value) (ok : Bool) (e : Ending) (w' : World) : Prop := e = .returned (.tuple #[v, .bool ok]) ∧ Below w.heap.size w w'
/-- What errors.As does with a target: set to v, or left as it is. -/
def AsPost (u : World) (t : Addr) (v : Value) (ok : Bool) (e : Ending) (u' : World) : Prop := e = .returned (.bool ok) ∧ (ok = true ∧ (∃ w1, Below u.heap.size u w1 ∧ u' = w1.setCell t v) ∨ ok = false ∧ Below u.heap.size u u')
set_option maxHeartbeats 4000000 in
set_option maxRecDepth 100000 in
theorem found_E (v : Value) (n : Int) (ok : Bool) (w : World) (hz : ok = false → n = 0) (has : ∀ (t : Addr) (old : Value) (u : World), Below w.heap.size w u → u.cell? t = some old → u.frozen? t = false → Calls Tryd.prog 101 #[v, .iface 154 (.pointer (some t))] u (AsPost u t (.int .i64 n) ok)) :
    Calls Tryd.prog 67 #[v] w (FoundPost w (.int .i64 n) ok) := by
  have hmf : ∀ (fn : Fn) (first cap : Array Value) (w : World), (Instr.makeFunc fn first cap).run Tryd.prog w = .ok (.func fn first cap) w := fun _ _ _ _ => rfl
  have HA := hide has
  have HZ := hide hz
  clear has hz
  go_enter_defers Tryd.func67, Tryd.ntmps67
  go_wp2_with fail
  have F0 := hide (Fnd.new w (.int .i64 0) (.bool false) 39)
  generalize ((w.alloc (.cells #[.int .i64 0] 39)).alloc (.cells #[.bool false] 4)) = w0 at *
  refine (HA.out ⟨w.heap.size, 0, none⟩ (.int .i64 0) w0 F0.out.b F0.out.cells.1 F0.out.cells.2.2.1).mono ?_
  rintro e w' ⟨rfl, hor⟩
  have F1 : Hid (Fnd w (.int .i64 n) (.bool false) 39 w') := by
    rcases hor with ⟨_, w1, hb, rfl⟩ | ⟨hk, hb⟩
    · exact F0.out.hit hb
    · rw [HZ.out hk]; exact F0.out.up hb
  clear hor F0 HZ HA
  obtain ⟨c0, c1, f0, f1⟩ := F1.out.cells
  go_wp2_with fail
  have F2 := hide (F1.out.flag (x := .bool ok)).drew
  clear c0 c1 f0 f1 F1
  have mixed : Tryd.prog.follows Departure.mixedOrders = true := by kernel_rfl
  refine wp_region_keep (fun u => Fnd w (.int .i64 n) (.bool ok) 39 u) mixed (by kernel_rfl) F2.out ?_
  repeat (first
    | (refine keep_step (v := ?_) (by rfl) (fun u K hS hK => ?_) ?_
       rotate_left
       · obtain ⟨c0, c1, f0, f1⟩ := hS.cells
         (go_simp; first
           | exact hK _ hS
           | exact hK _ hS.tag
           | exact hK _ hS.flag)
       simp only [Act.put, List.setIfInBounds_toArray, List.set_cons_zero, List.set_cons_succ]))
  refine keep_nil (fun w3 hS3 => ?_)
  have F3 := hide hS3
  obtain ⟨c0, c1, f0, f1⟩ := hS3.cells
  go_wp2
  refine leaves_cons (f := 100) (args := #[.pointer (some ⟨w.heap.size + 1, 0, none⟩)]) (by simp) (by simp [go_sem]) ?_
  refine (idleE ⟨w.heap.size + 1, 0, none⟩ _).mono ?_
  rintro e u' w'' ⟨rfl, rfl, rfl⟩
  simp [Leaves, settle, results, Tryd.results67, go_sem, c0, c1]
  exact ⟨rfl, F3.out.b⟩
set_option maxHeartbeats 4000000 in
set_option maxRecDepth 100000 in
theorem found_F (v : Value) (p : Option Addr) (ok : Bool) (w : World) (hz : ok = false → p = none) (has : ∀ (t : Addr) (old : Value) (u : World), Below w.heap.size w u → u.cell? t = some old → u.frozen? t = false → Calls Tryd.prog 101 #[v, .iface 155 (.pointer (some t))] u (AsPost u t (.pointer p) ok)) :
    Calls Tryd.prog 68 #[v] w (FoundPost w (.pointer p) ok) := by
  have hmf : ∀ (fn : Fn) (first cap : Array Value) (w : World), (Instr.makeFunc fn first cap).run Tryd.prog w = .ok (.func fn first cap) w := fun _ _ _ _ => rfl
  have HA := hide has
  have HZ := hide hz
  clear has hz
  go_enter_defers Tryd.func68, Tryd.ntmps68
  go_wp2_with fail
  have F0 := hide (Fnd.new w (.pointer none) (.bool false) 112)
  generalize ((w.alloc (.cells #[.pointer none] 112)).alloc (.cells #[.bool false] 4)) = w0 at *
  refine (HA.out ⟨w.heap.size, 0, none⟩ (.pointer none) w0 F0.out.b F0.out.cells.1 F0.out.cells.2.2.1).mono ?_
  rintro e w' ⟨rfl, hor⟩
  have F1 : Hid (Fnd w (.pointer p) (.bool false) 112 w') := by
    rcases hor with ⟨_, w1, hb, rfl⟩ | ⟨hk, hb⟩
    · exact F0.out.hit hb
    · rw [HZ.out hk]; exact F0.out.up hb
  clear hor F0 HZ HA
  obtain ⟨c0, c1, f0, f1⟩ := F1.out.cells
  go_wp2_with fail
  have F2 := hide (F1.out.flag (x := .bool ok)).drew
  clear c0 c1 f0 f1 F1
  have mixed : Tryd.prog.follows Departure.mixedOrders = true := by kernel_rfl
  refine wp_region_keep (fun u => Fnd w (.pointer p) (.bool ok) 112 u) mixed (by kernel_rfl) F2.out ?_
  repeat (first
    | (refine keep_step (v := ?_) (by rfl) (fun u K hS hK => ?_) ?_
       rotate_left
       · obtain ⟨c0, c1, f0, f1⟩ := hS.cells
         (go_simp; first
           | exact hK _ hS
           | exact hK _ hS.tag
           | exact hK _ hS.flag)
       simp only [Act.put, List.setIfInBounds_toArray, List.set_cons_zero, List.set_cons_succ]))
  refine keep_nil (fun w3 hS3 => ?_)
  have F3 := hide hS3
  obtain ⟨c0, c1, f0, f1⟩ := hS3.cells
  go_wp2
  refine leaves_cons (f := 102) (args := #[.pointer (some ⟨w.heap.size + 1, 0, none⟩)]) (by simp) (by simp [go_sem]) ?_
  refine (idleF ⟨w.heap.size + 1, 0, none⟩ _).mono ?_
  rintro e u' w'' ⟨rfl, rfl, rfl⟩
  simp [Leaves, settle, results, Tryd.results68, go_sem, c0, c1]
  exact ⟨rfl, F3.out.b⟩
/-- An error of the program's making: its value in a world, its number, its place. -/
def IsErr (w : World) (v : Value) (n p : Int) : Prop :=
  (v = .nilIface ∧ n = 0 ∧ p = -1) ∨ (v = .iface 39 (.int .i64 n) ∧ p = -1) ∨ ∃ b T f, v = .iface 112 (.pointer (some ⟨b, 0, none⟩)) ∧ w.heap[b]? = some (.cells #[.int .i64 p, .int .i64 n] T f)
theorem IsErr.below {w w' : World} {v : Value} {n p : Int} (h : IsErr w v n p) (hb : Below w.heap.size w w') : IsErr w' v n p := by
  rcases h with h | h | ⟨b, T, f, h1, h2⟩
  · exact .inl h
  · exact .inr (.inl h)
  · exact .inr (.inr ⟨b, T, f, h1, below_blk hb (heap_lt h2) h2⟩)
/-- An answer, and nothing that was there has changed. -/
def RetB (w : World) (v : Value) (e : Ending) (w' : World) : Prop := e = .returned v ∧ Below w.heap.size w w'
theorem Hit.as {u u' : World} {t : Addr} {v : Value} {e : Ending} (h : Hit u t v e u') : AsPost u t v true e u' := ⟨h.1, .inl ⟨rfl, h.2⟩⟩
theorem Miss.as {u u' : World} {e : Ending} (t : Addr) (v : Value) (h : Miss u e u') : AsPost u t v false e u' := ⟨h.1, .inr ⟨rfl, h.2⟩⟩
theorem number_c (v : Value) (n p : Int) (w : World) (h : IsErr w v n p) (he : Et w) : Calls Tryd.prog 27 #[v] w (RetB w (.int .i64 n)) := by
  have H : ∃ ok : Bool, (ok = false → n = 0) ∧ Hid (Calls Tryd.prog 67 #[v] w (FoundPost w (.int .i64 n) ok)) := by
    rcases h with ⟨rfl, rfl, rfl⟩ | ⟨rfl, rfl⟩ | ⟨b, T, f, rfl, hb⟩
    · exact ⟨false, fun _ => rfl, found_E _ 0 false w (fun _ => rfl) fun t old u hbu ht hf => (as_nil _ u).mono fun e u' hm => Miss.as t _ hm⟩
    · exact ⟨true, (fun h => by cases h), found_E _ n true w (fun h => by cases h) fun t old u hbu ht hf => (as_EE n t old u (he.below hbu (Nat.le_refl _)) ht hf).mono fun e u' hm => Hit.as hm⟩
    · exact ⟨true, (fun h => by cases h), found_E _ n true w (fun h => by cases h) fun t old u hbu ht hf => (as_FE b p n T f t old u (below_blk hbu (heap_lt hb) hb) (he.below hbu (Nat.le_refl _)) ht hf).mono fun e u' hm => Hit.as hm⟩
  obtain ⟨ok, hz, HF⟩ := H
  clear h he
  cases ok
  · have hn := hz rfl
    subst hn
    clear hz
    go_enter Tryd.func27, Tryd.ntmps27
    go_wp2_with fail
    refine HF.out.mono ?_
    rintro e w' ⟨rfl, hb⟩
    go_wp2
    go_ret
    exact ⟨rfl, hb⟩
  · clear hz
    go_enter Tryd.func27, Tryd.ntmps27
    go_wp2_with fail
    refine HF.out.mono ?_
    rintro e w' ⟨rfl, hb⟩
    go_wp2
    go_ret
    exact ⟨rfl, hb⟩
theorem place_c (v : Value) (n p : Int) (w : World) (h : IsErr w v n p) (he : Et w) : Calls Tryd.prog 28 #[v] w (RetB w (.int .i64 p)) := by
  have H : (p = -1 ∧ Hid (Calls Tryd.prog 68 #[v] w (FoundPost w (.pointer none) false))) ∨ ∃ b T f, Hid (w.heap[b]? = some (.cells #[.int .i64 p, .int .i64 n] T f)) ∧ Hid (Calls Tryd.prog 68 #[v] w (FoundPost w (.pointer (some ⟨b, 0, none⟩)) true)) := by
    rcases h with ⟨rfl, rfl, rfl⟩ | ⟨rfl, rfl⟩ | ⟨b, T, f, rfl, hb⟩
    · exact .inl ⟨rfl, found_F _ none false w (fun _ => rfl) fun t old u hbu ht hf => (as_nil _ u).mono fun e u' hm => Miss.as t _ hm⟩
    · exact .inl ⟨rfl, found_F _ none false w (fun _ => rfl) fun t old u hbu ht hf => (as_EF n t u (he.below hbu (Nat.le_refl _))).mono fun e u' hm => Miss.as t _ hm⟩
    · exact .inr ⟨b, T, f, hb, found_F _ _ true w (fun h => by cases h) fun t old u hbu ht hf => (as_FF ⟨b, 0, none⟩ t old u (he.below hbu (Nat.le_refl _)) ht hf).mono fun e u' hm => Hit.as hm⟩
  clear h he
  rcases H with ⟨rfl, HF⟩ | ⟨b, T, f, HB, HF⟩
  · go_enter Tryd.func28, Tryd.ntmps28
    go_wp2_with fail
    refine HF.out.mono ?_
    rintro e w' ⟨rfl, hb⟩
    go_wp2
    go_ret
    exact ⟨rfl, hb⟩
  · go_enter Tryd.func28, Tryd.ntmps28
    go_wp2_with fail
    refine HF.out.mono ?_
    rintro e w' ⟨rfl, hb⟩
    have c0 : w'.cell? ⟨b, 0, none⟩ = some (.int .i64 p) := blk_cell (below_blk hb (heap_lt HB.out) HB.out) rfl
    go_wp2
    go_ret
    exact ⟨rfl, hb⟩
end Go.Proofs.YtpaijhmbfljfmaaDoor.Eu
/- The Reader at any state, as a machine in plain numbers: has, Byte, Num, Err, End, At. -/
namespace Go.Proofs.YtpaijhmbfljfmaaDoor.Cv
set_option linter.unusedVariables false
set_option linter.unusedSimpArgs false
set_option maxRecDepth 100000
open Go.ChangeShapes Go.WideShapes Go.ChangeAt Go.RowKit
open Go.Proofs.YtpaijhmbfljfmaaDoor.Wu Go.Proofs.YtpaijhmbfljfmaaDoor.Sm Go.Proofs.YtpaijhmbfljfmaaDoor.Sh Go.Proofs.YtpaijhmbfljfmaaDoor.Ba Go.Proofs.YtpaijhmbfljfmaaDoor.Bp Go.Proofs.YtpaijhmbfljfmaaDoor.Bq Go.Proofs.YtpaijhmbfljfmaaDoor.Cm Go.Proofs.YtpaijhmbfljfmaaDoor.Cn Go.Proofs.YtpaijhmbfljfmaaDoor.Cr Go.Proofs.YtpaijhmbfljfmaaDoor.Cs Go.Proofs.YtpaijhmbfljfmaaDoor.Rk Go.Proofs.YtpaijhmbfljfmaaDoor.Ct Go.Proofs.YtpaijhmbfljfmaaDoor.Er Go.Proofs.YtpaijhmbfljfmaaDoor.Eu
attribute [local go_sem] kUpon_value kUpon_skip kUpon_enter
/-- Where a reader is, and what went wrong where. -/
structure Rs where
  at_ : Nat
  fa : Int
  fe : Int
abbrev RdS (w : World) (g : Nat) (a : Option Addr) (m c : Nat) (s : Rs) : Prop := Rd w g a m c (s.at_ : Int) s.fa s.fe
def Rs.has (s : Rs) (m n : Nat) : Rs := if s.fe = 0 ∧ m < s.at_ + n then ⟨s.at_, (m : Int), 30⟩ else s
def Rs.byte (s : Rs) (L : List Nat) : Rs := if (s.has L.length 1).fe = 0 then ⟨s.at_ + 1, s.fa, s.fe⟩ else s.has L.length 1
def Rs.byteV (s : Rs) (L : List Nat) : Nat := if (s.has L.length 1).fe = 0 then L.getD s.at_ 0 else 0
def Rs.num (s : Rs) (L : List Nat) : Rs := if s.fe = 0 then (match numP (L.drop s.at_) 0 0 with
  | .ok _ k => ⟨s.at_ + k, s.fa, s.fe⟩
  | .bad code => ⟨s.at_, if code = 30 then (L.length : Int) else (s.at_ : Int), (code : Int)⟩) else s
def Rs.numV (s : Rs) (L : List Nat) : Nat := if s.fe = 0 then (match numP (L.drop s.at_) 0 0 with
  | .ok n _ => n
  | .bad _ => 0) else 0
def Rs.fin (s : Rs) (m : Nat) : Rs := if s.fe = 0 ∧ s.at_ < m then ⟨s.at_, (s.at_ : Int), 31⟩ else s
theorem grown_drewN (w : World) (k g : Nat) : w.grownBy (w.drewN k) (some g) := ⟨rfl, rfl, rfl, Nat.le_refl _, fun _ _ _ => rfl⟩
/-- A value, the reader at a state, and nothing else has changed that was there. -/
def RdP (w : World) (g : Nat) (a : Option Addr) (m c : Nat) (s : Rs) (v : Value) (e : Ending) (w' : World) : Prop := e = .returned v ∧ RdS w' g a m c s ∧ w.grownBy w' (some g)
theorem has_no (g : Nat) (a : Option Addr) (m c : Nat) (n at_ fa fe : Int) (w : World) (h : Rd w g a m c at_ fa fe) (hfe : ¬ fe = 0) :
    Calls Tryd.prog 94 #[.pointer (some ⟨g, 0, none⟩), .int .i64 n] w fun e w' => e = .returned (.bool false) ∧ ∃ k, w' = w.drewN k := by
  have H := hide h
  have hb : (fe == 0) = false := by simp [hfe]
  have HS := hide (fun u (hu : Rd u g a m c at_ fa fe) => sound_c g a m c at_ fa fe u hu)
  rw [hb] at HS
  clear h hfe hb
  go_enter Tryd.func94, Tryd.ntmps94
  go_wp2_with fail
  refine wp_region_keep (fun u => ∃ k, u = w.drewN k) (by kernel_rfl) (by kernel_rfl) ⟨1, rfl⟩ ?_
  repeat (first
    | (refine keep_not (by rfl) ?_
       simp only [Act.put, List.setIfInBounds_toArray, List.set_cons_zero, List.set_cons_succ])
    | (refine keep_step (v := ?_) (by rfl) (fun u K hS hK => ?_) ?_
       rotate_left
       · obtain ⟨nn, rfl⟩ := hS
         (go_simp; first
           | exact hK _ ⟨nn, rfl⟩
           | (go_at_call 95; refine (HS.out (w.drewN nn) H.out).mono ?_; rintro e u2 ⟨rfl, rfl⟩; exact hK _ ⟨nn, rfl⟩))
       simp only [Act.put, List.setIfInBounds_toArray, List.set_cons_zero, List.set_cons_succ]))
  refine keep_nil (fun w3 hS3 => ?_)
  obtain ⟨k3, rfl⟩ := hS3
  have H3 : Hid (Rd (w.drewN k3) g a m c at_ fa fe) := H.out
  have HW : Hid (∃ k, w.drewN k3 = w.drewN k) := ⟨k3, rfl⟩
  generalize w.drewN k3 = w3 at *
  go_wp2_with fail
  refine (HS.out w3 H3.out).mono ?_
  rintro e w4 ⟨rfl, rfl⟩
  go_wp2
  go_ret
  exact ⟨rfl, HW.out⟩
theorem has_some (g : Nat) (a : Option Addr) (m c at_ n : Nat) (fa : Int) (ok : Bool) (w : World) (h : Rd w g a m c (at_ : Int) fa 0) (hm : m ≤ 281474976710656) (hat : at_ ≤ m) (hn : n ≤ 281474976710656) (hok : decide (at_ + n ≤ m) = ok) :
    Calls Tryd.prog 94 #[.pointer (some ⟨g, 0, none⟩), .int .i64 (n : Int)] w fun e w' => e = .returned (.bool ok) ∧ Rd w' g a m c (at_ : Int) (if ok then fa else (m : Int)) (if ok then 0 else 30) ∧ w.grownBy w' (some g) := by
  have H := hide h
  obtain ⟨c0, c1, c2, c3⟩ := h.cells
  have HS := hide (fun u (hu : Rd u g a m c (at_ : Int) fa 0) => sound_c g a m c (at_ : Int) fa 0 u hu)
  clear h
  have hw : IntKind.i64.wrap ((m : Int) - (at_ : Int)) = (m : Int) - (at_ : Int) := IntWalk.i64_in _ (by omega)
  have hd : decide ((m : Int) - (at_ : Int) < (n : Int)) = !ok := by
    rw [← hok]
    by_cases h : at_ + n ≤ m
    · have : ¬ (m : Int) - (at_ : Int) < (n : Int) := by omega
      simp [h, this]
    · have : (m : Int) - (at_ : Int) < (n : Int) := by omega
      simp [h, this]
  clear hok
  cases ok
  all_goals
    simp only [Bool.not_true, Bool.not_false] at hd
    go_enter Tryd.func94, Tryd.ntmps94
    go_wp2_with fail
    refine wp_region_keep (fun u => ∃ k, u = w.drewN k) (by kernel_rfl) (by kernel_rfl) ⟨1, rfl⟩ ?_
    repeat (first
      | (refine keep_step (v := ?_) (by rfl) (fun u K hS hK => ?_) ?_
         rotate_left
         · obtain ⟨nn, rfl⟩ := hS
           (go_simp; first
             | exact hK _ ⟨nn, rfl⟩
             | (go_at_call 95; refine (HS.out (w.drewN nn) H.out).mono ?_; rintro e u2 ⟨rfl, rfl⟩; exact hK _ ⟨nn, rfl⟩))
         simp only [Act.put, List.setIfInBounds_toArray, List.set_cons_zero, List.set_cons_succ]))
    refine keep_nil (fun w3 hS3 => ?_)
    obtain ⟨k3, rfl⟩ := hS3
    have H3 : Hid (Rd (w.drewN k3) g a m c (at_ : Int) fa 0) := H.out
    clear c0 c1 c2 c3 hw hd
    have HG : Hid (w.grownBy (w.drewN k3) (some g)) := grown_drewN w k3 g
    generalize w.drewN k3 = w3 at *
  · obtain ⟨c0, c1, c2, c3⟩ := H3.out.cells
    go_wp2_with fail
    refine (fail_c g a m c _ _ _ (m : Int) 30 w3 H3.out).mono ?_
    rintro e w4 ⟨rfl, hr, hg⟩
    have HR4 := hide hr
    have HG4 := hide (grown_trans HG.out hg)
    clear c0 c1 c2 c3 hr hg
    go_wp2_with fail
    refine (sound_c g a m c _ _ _ w4 HR4.out).mono ?_
    rintro e w5 ⟨rfl, rfl⟩
    go_wp2
    go_ret
    exact ⟨rfl, HR4.out, HG4.out⟩
  · go_wp2_with fail
    refine (HS.out w3 H3.out).mono ?_
    rintro e w4 ⟨rfl, rfl⟩
    go_wp2
    go_ret
    exact ⟨rfl, H3.out, HG.out⟩
theorem has_c (g : Nat) (a : Option Addr) (m c n : Nat) (s : Rs) (w : World) (h : RdS w g a m c s) (hm : m ≤ 281474976710656) (hat : s.at_ ≤ m) (hn : n ≤ 281474976710656) :
    Calls Tryd.prog 94 #[.pointer (some ⟨g, 0, none⟩), .int .i64 (n : Int)] w (RdP w g a m c (s.has m n) (.bool (decide ((s.has m n).fe = 0)))) := by
  obtain ⟨at_, fa, fe⟩ := s
  simp only at hat
  by_cases hfe : fe = 0
  · subst hfe
    refine (has_some g a m c at_ n fa _ w h hm hat hn rfl).mono ?_
    rintro e w' ⟨rfl, h1, h2⟩
    by_cases hh : at_ + n ≤ m
    · have e1 : Rs.has ⟨at_, fa, 0⟩ m n = ⟨at_, fa, 0⟩ := by unfold Rs.has; rw [if_neg (by simp only; omega)]
      rw [e1]
      simp only [hh, decide_true] at h1 ⊢
      exact ⟨by simp, h1, h2⟩
    · have e1 : Rs.has ⟨at_, fa, 0⟩ m n = ⟨at_, (m : Int), 30⟩ := by unfold Rs.has; rw [if_pos ⟨rfl, by simp only; omega⟩]
      rw [e1]
      simp only [hh, decide_false] at h1 ⊢
      exact ⟨by simp, h1, h2⟩
  · refine (has_no g a m c n at_ fa fe w h hfe).mono ?_
    rintro e w' ⟨rfl, k, rfl⟩
    have e1 : Rs.has ⟨at_, fa, fe⟩ m n = ⟨at_, fa, fe⟩ := by unfold Rs.has; rw [if_neg (fun h => hfe h.1)]
    rw [e1]
    exact ⟨by simp [hfe], h, grown_drewN w k g⟩
theorem at_c (g : Nat) (a : Option Addr) (m c : Nat) (s : Rs) (w : World) (h : RdS w g a m c s) :
    Calls Tryd.prog 114 #[.pointer (some ⟨g, 0, none⟩)] w fun e w' => e = .returned (.int .i64 (s.at_ : Int)) ∧ w = w' := by
  obtain ⟨at_, fa, fe⟩ := s
  obtain ⟨c0, c1, c2, c3⟩ := h.cells
  simp only at c1
  clear h
  go_enter Tryd.func114, Tryd.ntmps114
  go_wp2
  go_ret
  exact ⟨rfl, rfl⟩
/-- Byte. -/
theorem byte_c (g : Nat) (a : Option Addr) (m c : Nat) (L : List Nat) (s : Rs) (w : World) (h : RdS w g a m c s) (hs : SrcB w a m L) (hga : ∀ ad, a = some ad → 0 < m → ad.block ≠ g) (hat : s.at_ ≤ m) (hmc : m ≤ c) (hm : m ≤ 281474976710656) :
    Calls Tryd.prog 113 #[.pointer (some ⟨g, 0, none⟩)] w (RdP w g a m c (s.byte L) (.int .u8 ((s.byteV L : Nat) : Int))) := by
  have hLm := hs.1
  have HH := hide (has_c g a m c 1 s w h hm hat (by omega))
  have HS := hide hs
  clear h hs
  unfold Rs.byte Rs.byteV
  rw [hLm]
  by_cases hok : (s.has m 1).fe = 0
  · have hs1 : s.has m 1 = s ∧ s.at_ + 1 ≤ m := by
      unfold Rs.has at hok ⊢
      by_cases hc : s.fe = 0 ∧ m < s.at_ + 1
      · rw [if_pos hc] at hok; simp at hok
      · rw [if_neg hc] at hok
        rw [if_neg hc]
        exact ⟨rfl, by omega⟩
    obtain ⟨hs1, hs2⟩ := hs1
    rw [if_pos hok, if_pos hok]
    rw [hs1] at hok HH
    rw [decide_eq_true hok] at HH
    clear hs1
    obtain ⟨at_, fa, fe⟩ := s
    simp only at hok hs2 ⊢
    subst hok
    obtain ⟨z, hz⟩ : ∃ z, z = L.getD at_ 0 := ⟨_, rfl⟩
    rw [← hz]
    have Hz := hide hz
    clear hz
    go_enter Tryd.func113, Tryd.ntmps113
    go_wp2_with fail
    refine HH.out.mono ?_
    rintro e w1 ⟨rfl, h1, hg1⟩
    have H1 : Hid (Rd w1 g a m c (at_ : Int) fa 0) := h1
    have HG1 := hide hg1
    have HS1 : Hid (SrcB w1 a m L) := by
      obtain ⟨hl, h8, b, off, ha, hc⟩ := HS.out
      refine ⟨hl, h8, b, off, ha, fun i hi => ?_⟩
      have e := ha (by omega)
      rw [World.cell?_of_block (a := ⟨b, off + i, none⟩) (hg1.block b (cell_lt (hc i hi)) (fun e' => hga _ e (by omega) (by injection e')))]
      exact hc i hi
    clear h1 hg1 HH
    go_wp2_with fail
    refine (next_c g a m c at_ 1 fa 0 w1 H1.out (by omega) hmc hm).mono ?_
    rintro e w2 ⟨A', hA', rfl, hr2, hg2⟩
    have HR2 := hide hr2
    have HG2 := hide (grown_trans HG1.out hg2)
    obtain ⟨hl, h8, b, off, ha, hc⟩ := HS1.out
    obtain rfl := ha (by omega)
    rw [if_neg (by omega)] at hA'
    simp only [Option.map_some] at hA'
    have hcell : w2.cell? ⟨b, off + at_, none⟩ = some (.int .u8 ((L.getD at_ 0 : Nat) : Int)) := by
      have hc1 := hc at_ (by omega)
      rw [World.cell?_of_block (a := ⟨b, off + at_, none⟩) (hg2.block b (cell_lt hc1) (fun e => hga _ rfl (by omega) (by injection e)))]
      exact hc1
    rw [Addr.add_mid] at hA'
    subst hA'
    clear hr2 hg2 hc ha
    rw [← Hz.out] at hcell
    clear Hz
    go_wp2
    go_ret
    exact ⟨rfl, HR2.out, HG2.out⟩
  · rw [if_neg hok, if_neg hok]
    rw [decide_eq_false hok] at HH
    generalize s.has m 1 = s1 at *
    clear hok
    go_enter Tryd.func113, Tryd.ntmps113
    go_wp2_with fail
    refine HH.out.mono ?_
    rintro e w1 ⟨rfl, h1, hg1⟩
    have H1 := hide h1
    have HG1 := hide hg1
    clear h1 hg1
    go_wp2
    go_ret
    exact ⟨rfl, H1.out, HG1.out⟩
theorem numP_fit : ∀ (X : List Nat) (i n a k : Nat), numP X i n = .ok a k → k ≤ i + X.length
  | [], i, n, a, k, h => by simp [numP] at h
  | x :: X, i, n, a, k, h => by
    unfold numP at h
    split at h
    · cases h
    · split at h
      · have := numP_fit X _ _ _ _ h
        simp only [List.length_cons]; omega
      · split at h
        · cases h
        · simp only [NumR.ok.injEq] at h
          simp only [List.length_cons]; omega
/-- Num. -/
theorem num_c (g : Nat) (a : Option Addr) (m c : Nat) (L : List Nat) (s : Rs) (w : World) (h : RdS w g a m c s) (hs : SrcB w a m L) (hat : s.at_ ≤ m) (hmc : m ≤ c) (hm : m ≤ 281474976710656) :
    Calls Tryd.prog 51 #[.pointer (some ⟨g, 0, none⟩)] w (RdP w g a m c (s.num L) (.int .i64 ((s.numV L : Nat) : Int))) := by
  have hLm := hs.1
  obtain ⟨at_, fa, fe⟩ := s
  simp only at hat
  unfold Rs.num Rs.numV
  simp only
  by_cases hfe : fe = 0
  · subst hfe
    rw [if_pos rfl, if_pos rfl]
    cases hR : numP (L.drop at_) 0 0 with
    | ok n k =>
      have hfit := numP_fit _ _ _ _ _ hR
      rw [List.length_drop] at hfit
      refine (num_ok g a m c at_ L fa w n k h hs hat hmc hm hR (by omega)).mono ?_
      rintro e w' ⟨rfl, h1, h2⟩
      exact ⟨rfl, h1, h2⟩
    | bad code =>
      have HN := hide (number_c g a m c at_ L fa w (.bad code) h hs hat hmc hm hR)
      clear h hs
      rw [hLm]
      simp only
      obtain ⟨fq, hfq⟩ : ∃ fq : Int, fq = (if code = 30 then (m : Int) else (at_ : Int)) := ⟨_, rfl⟩
      rw [← hfq]
      have Hfq := hide hfq
      clear hfq
      go_enter Tryd.func51, Tryd.ntmps51
      go_wp2_with fail
      refine HN.out.mono ?_
      rintro e w1 ⟨rfl, h1, hg1⟩
      rw [← Hfq.out] at h1
      have H1 := hide h1
      have HG1 := hide hg1
      clear h1 hg1 HN Hfq
      go_wp2_with fail
      refine (next_c g a m c at_ 0 fq _ w1 H1.out (by omega) hmc hm).mono ?_
      rintro e w2 ⟨A', hA', rfl, hr2, hg2⟩
      clear hA'
      have HR2 := hide hr2
      have HG2 := hide (grown_trans HG1.out hg2)
      clear hr2 hg2
      go_wp2
      go_ret
      exact ⟨rfl, HR2.out, HG2.out⟩
  · rw [if_neg hfe, if_neg hfe]
    have hb : (fe == 0) = false := by simp [hfe]
    have HS := hide (sound_c g a m c (at_ : Int) fa fe w h)
    rw [hb] at HS
    have H := hide h
    clear h hs hb
    go_enter Tryd.func51, Tryd.ntmps51
    go_wp2_with fail
    have HNum : Hid (Calls Tryd.prog 91 #[.pointer (some ⟨g, 0, none⟩)] w fun e w' => e = .returned (.tuple #[.int .i64 0, .int .i64 0]) ∧ w = w') := by
      show Calls _ _ _ _ _
      go_enter Tryd.func91, Tryd.ntmps91
      go_wp2_with fail
      refine HS.out.mono ?_
      rintro e w1 ⟨rfl, rfl⟩
      go_wp2
      go_ret2
      exact ⟨rfl, rfl⟩
    refine HNum.out.mono ?_
    rintro e w1 ⟨rfl, rfl⟩
    clear HNum HS
    go_wp2_with fail
    refine (next_c g a m c at_ 0 fa fe w H.out (by omega) hmc hm).mono ?_
    rintro e w2 ⟨A', hA', rfl, hr2, hg2⟩
    clear hA'
    have HR2 := hide hr2
    have HG2 := hide hg2
    clear hr2 hg2
    go_wp2
    go_ret
    exact ⟨rfl, HR2.out, HG2.out⟩
/-- What went wrong, as an error in a block of its own. -/
def ErrP (w : World) (s : Rs) (e : Ending) (w' : World) : Prop := ∃ v, e = .returned v ∧ (s.fe = 0 ∧ v = .nilIface ∨ s.fe ≠ 0 ∧ v = .iface 112 (.pointer (some ⟨w.heap.size, 0, none⟩)) ∧ w'.heap[w.heap.size]? = some (.cells #[.int .i64 s.fa, .int .i64 s.fe] 41 (0, 0))) ∧ Below w.heap.size w w'
theorem err_c (g : Nat) (a : Option Addr) (m c : Nat) (s : Rs) (w : World) (h : RdS w g a m c s) :
    Calls Tryd.prog 96 #[.pointer (some ⟨g, 0, none⟩)] w (ErrP w s) := by
  obtain ⟨at_, fa, fe⟩ := s
  by_cases hfe : fe = 0
  · subst hfe
    refine (err_none g a m c _ _ w h).mono ?_
    rintro e w' ⟨rfl, rfl⟩
    exact ⟨_, rfl, .inl ⟨rfl, rfl⟩, Below.refl _ _⟩
  · have hb : (fe == 0) = false := by simp [hfe]
    have HS := hide (sound_c g a m c (at_ : Int) fa fe w h)
    rw [hb] at HS
    obtain ⟨c0, c1, c2, c3⟩ := h.cells
    clear h hb
    have Hfe := hide hfe
    clear hfe
    go_enter Tryd.func96, Tryd.ntmps96
    go_wp2_with fail
    refine HS.out.mono ?_
    rintro e w1 ⟨rfl, rfl⟩
    go_wp2
    go_ret
    exact ⟨_, rfl, .inr ⟨Hfe.out, rfl, heap_last _ _⟩, below_new _ _⟩
theorem ErrP.isErr {w w' : World} {s : Rs} {e : Ending} (h : ErrP w s e w') : ∃ v, e = .returned v ∧ IsErr w' v s.fe (if s.fe = 0 then -1 else s.fa) ∧ Below w.heap.size w w' := by
  obtain ⟨v, h1, h2, h3⟩ := h
  refine ⟨v, h1, ?_, h3⟩
  rcases h2 with ⟨h4, h5⟩ | ⟨h4, h5, h6⟩
  · rw [if_pos h4]; exact .inl ⟨h5, h4, rfl⟩
  · rw [if_neg h4]; exact .inr (.inr ⟨_, _, _, h5, h6⟩)
end Go.Proofs.YtpaijhmbfljfmaaDoor.Cv
/- End and Text of the Reader at any state. -/
namespace Go.Proofs.YtpaijhmbfljfmaaDoor.Cv
set_option linter.unusedVariables false
set_option linter.unusedSimpArgs false
open Go.Proofs.YtpaijhmbfljfmaaDoor.Sm Go.Proofs.YtpaijhmbfljfmaaDoor.Cr Go.Proofs.YtpaijhmbfljfmaaDoor.Cv
theorem numP_max : ∀ (X : List Nat) (i n a k : Nat), numP X i n = .ok a k → a ≤ 1099511627776
  | [], i, n, a, k, h => by simp [numP] at h
  | x :: X, i, n, a, k, h => by
    unfold numP at h
    split at h
    · cases h
    · split at h
      · exact numP_max X _ _ _ _ h
      · split at h
        · cases h
        · rename_i hh
          simp only [NumR.ok.injEq] at h
          omega
theorem Rs.numV_max (s : Rs) (L : List Nat) : s.numV L ≤ 1099511627776 := by
  unfold Rs.numV
  split
  · split
    · rename_i h
      exact numP_max _ _ _ _ _ h
    · omega
  · omega
theorem Rs.num_at (s : Rs) (L : List Nat) (h : s.at_ ≤ L.length) : (s.num L).at_ ≤ L.length ∧ s.at_ ≤ (s.num L).at_ := by
  unfold Rs.num
  split
  · split
    · rename_i hn
      have := numP_fit _ _ _ _ _ hn
      rw [List.length_drop] at this
      simp only
      omega
    · exact ⟨h, Nat.le_refl _⟩
  · exact ⟨h, Nat.le_refl _⟩
/-- Text. -/
def Rs.mid (s : Rs) (L : List Nat) : Rs := if 4096 < s.numV L then ⟨(s.num L).at_, (s.at_ : Int), 2⟩ else s.num L
def Rs.pre (s : Rs) (L : List Nat) : Rs := (s.mid L).has L.length (s.numV L)
def Rs.text (s : Rs) (L : List Nat) : Rs := if (s.pre L).fe = 0 then ⟨(s.pre L).at_ + s.numV L, (s.pre L).fa, (s.pre L).fe⟩ else ⟨s.at_, (s.pre L).fa, (s.pre L).fe⟩
def Rs.textV (s : Rs) (L : List Nat) : List Nat := if (s.pre L).fe = 0 then (L.drop (s.num L).at_).take (s.numV L) else []
theorem Rs.pre_at (s : Rs) (L : List Nat) : (s.pre L).at_ = (s.num L).at_ := by
  unfold Rs.pre Rs.has Rs.mid
  split <;> split <;> rfl
theorem Rs.pre_nil (s : Rs) (L : List Nat) (h : L = []) : (s.pre L).fe ≠ 0 := by
  subst h
  have h2 : (s.num []).fe ≠ 0 := by
    unfold Rs.num
    by_cases h0 : s.fe = 0
    · rw [if_pos h0]; simp [numP]
    · rw [if_neg h0]; exact h0
  have h3 : (s.mid []).fe ≠ 0 := by
    unfold Rs.mid
    split
    · simp
    · exact h2
  unfold Rs.pre Rs.has
  rw [if_neg (fun h => h3 h.1)]
  exact h3
theorem Rs.pre_fits (s : Rs) (L : List Nat) (h : (s.pre L).fe = 0) : (s.num L).at_ + s.numV L ≤ L.length ∧ s.numV L ≤ 4096 := by
  unfold Rs.pre Rs.has at h
  by_cases hb : 4096 < s.numV L
  · unfold Rs.mid at h
    rw [if_pos hb] at h
    simp at h
  · have e : s.mid L = s.num L := by unfold Rs.mid; rw [if_neg hb]
    rw [e] at h
    by_cases hc : (s.num L).fe = 0 ∧ L.length < (s.num L).at_ + s.numV L
    · rw [if_pos hc] at h; simp at h
    · rw [if_neg hc] at h
      exact ⟨by omega, by omega⟩
end Go.Proofs.YtpaijhmbfljfmaaDoor.Cv
namespace Go.Proofs.YtpaijhmbfljfmaaDoor.Cw
set_option linter.unusedVariables false
set_option linter.unusedSimpArgs false
set_option maxRecDepth 100000
open Go.ChangeShapes Go.WideShapes Go.ChangeAt Go.RowKit
open Go.Proofs.YtpaijhmbfljfmaaDoor.Wu Go.Proofs.YtpaijhmbfljfmaaDoor.Sm Go.Proofs.YtpaijhmbfljfmaaDoor.Sh Go.Proofs.YtpaijhmbfljfmaaDoor.Ba Go.Proofs.YtpaijhmbfljfmaaDoor.Bp Go.Proofs.YtpaijhmbfljfmaaDoor.Bq Go.Proofs.YtpaijhmbfljfmaaDoor.Cm Go.Proofs.YtpaijhmbfljfmaaDoor.Cn Go.Proofs.YtpaijhmbfljfmaaDoor.Cr Go.Proofs.YtpaijhmbfljfmaaDoor.Cs Go.Proofs.YtpaijhmbfljfmaaDoor.Rk Go.Proofs.YtpaijhmbfljfmaaDoor.Ct Go.Proofs.YtpaijhmbfljfmaaDoor.Er Go.Proofs.YtpaijhmbfljfmaaDoor.Eu Go.Proofs.YtpaijhmbfljfmaaDoor.Cv
attribute [local go_sem] kUpon_value kUpon_skip kUpon_enter
/-- What End leaves: the error, and the reader. -/
def EndP (w : World) (g : Nat) (a : Option Addr) (m c : Nat) (s : Rs) (e : Ending) (w' : World) : Prop := ∃ v, e = .returned v ∧ (s.fe = 0 ∧ v = .nilIface ∨ s.fe ≠ 0 ∧ ∃ b, w.heap.size ≤ b ∧ v = .iface 112 (.pointer (some ⟨b, 0, none⟩)) ∧ w'.heap[b]? = some (.cells #[.int .i64 s.fa, .int .i64 s.fe] 41 (0, 0))) ∧ RdS w' g a m c s ∧ w.grownBy w' (some g)
theorem grown_below {w w1 w2 : World} {k : Option Nat} (h1 : w.grownBy w1 k) (h2 : Below w1.heap.size w1 w2) : w.grownBy w2 k :=
  ⟨h2.os.trans h1.os, h2.tape.trans h1.tape, h2.output.trans h1.output, Nat.le_trans h1.size h2.size, fun b hb hne => (h2.block b (Nat.lt_of_lt_of_le hb h1.size)).trans (h1.block b hb hne)⟩
theorem below_grown {w w1 : World} (h : Below w.heap.size w w1) (k : Option Nat) : w.grownBy w1 k := ⟨h.os, h.tape, h.output, h.size, fun b hb _ => h.block b hb⟩
theorem end_c (g : Nat) (a : Option Addr) (m c : Nat) (s : Rs) (w : World) (h : RdS w g a m c s) (hm : m ≤ 281474976710656) :
    Calls Tryd.prog 54 #[.pointer (some ⟨g, 0, none⟩)] w (EndP w g a m c (s.fin m)) := by
  have key : ∀ (s1 : Rs) (w1 : World), RdS w1 g a m c s1 → w.grownBy w1 (some g) → ∀ e w2, ErrP w1 s1 e w2 → EndP w g a m c s1 e w2 := by
    intro s1 w1 hr hg e w2 ⟨v, h1, h2, h3⟩
    refine ⟨v, h1, ?_, below_blk h3 (heap_lt hr) hr, grown_below hg h3⟩
    rcases h2 with h2 | ⟨h4, h5, h6⟩
    · exact .inl h2
    · exact .inr ⟨h4, _, hg.size, h5, h6⟩
  have HK := hide key
  clear key
  have H := hide h
  obtain ⟨c0, c1, c2, c3⟩ := h.cells
  have HS := hide (fun u (hu : RdS u g a m c s) => sound_c g a m c (s.at_ : Int) s.fa s.fe u hu)
  clear h
  by_cases hfe : s.fe = 0
  · by_cases hlt : s.at_ < m
    · have e1 : s.fin m = ⟨s.at_, (s.at_ : Int), 31⟩ := by unfold Rs.fin; rw [if_pos ⟨hfe, hlt⟩]
      rw [e1]
      clear e1
      obtain ⟨at_, fa, fe⟩ := s
      simp only at hfe hlt c1 c2 c3 HS H ⊢
      subst hfe
      have hd : decide ((at_ : Int) < (m : Int)) = true := by simp; omega
      have hd2 : decide (at_ < m) = true := by simp; omega
      go_enter Tryd.func54, Tryd.ntmps54
      go_wp2_with fail
      refine wp_region_keep (fun u => ∃ k, u = w.drewN k) (by kernel_rfl) (by kernel_rfl) ⟨1, rfl⟩ ?_
      repeat (first
        | (refine keep_step (v := ?_) (by rfl) (fun u K hS hK => ?_) ?_
           rotate_left
           · obtain ⟨nn, rfl⟩ := hS
             (go_simp; first
               | exact hK _ ⟨nn, rfl⟩
               | (go_at_call 95; refine (HS.out (w.drewN nn) H.out).mono ?_; rintro e u2 ⟨rfl, rfl⟩; exact hK _ ⟨nn, rfl⟩))
           simp only [Act.put, List.setIfInBounds_toArray, List.set_cons_zero, List.set_cons_succ]))
      refine keep_nil (fun w3 hS3 => ?_)
      obtain ⟨k3, rfl⟩ := hS3
      have H3 : Hid (Rd (w.drewN k3) g a m c (at_ : Int) fa 0) := H.out
      have HG3 : Hid (w.grownBy (w.drewN k3) (some g)) := grown_drewN w k3 g
      clear c0 c1 c2 c3 hd hd2
      generalize w.drewN k3 = w3 at *
      obtain ⟨c0, c1, c2, c3⟩ := H3.out.cells
      go_wp2_with fail
      refine (fail_c g a m c _ _ _ (at_ : Int) 31 w3 H3.out).mono ?_
      rintro e w4 ⟨rfl, hr, hg⟩
      have HR4 : Hid (RdS w4 g a m c ⟨at_, (at_ : Int), 31⟩) := hr
      have HG4 := hide (grown_trans HG3.out hg)
      clear c0 c1 c2 c3 hr hg
      go_wp2_with fail
      refine (err_c g a m c ⟨at_, (at_ : Int), 31⟩ w4 HR4.out).mono ?_
      intro e w5 hp
      have HP := hide (HK.out _ w4 HR4.out HG4.out e w5 hp)
      obtain ⟨v, rfl, _⟩ := hp
      go_wp2
      go_ret
      exact HP.out
    · have e1 : s.fin m = s := by unfold Rs.fin; rw [if_neg (fun h => hlt h.2)]
      rw [e1]
      clear e1
      obtain ⟨at_, fa, fe⟩ := s
      simp only at hfe hlt c1 c2 c3 HS H ⊢
      subst hfe
      have hd : decide ((at_ : Int) < (m : Int)) = false := by simp; omega
      have hd2 : decide (at_ < m) = false := by simp; omega
      go_enter Tryd.func54, Tryd.ntmps54
      go_wp2_with fail
      refine wp_region_keep (fun u => ∃ k, u = w.drewN k) (by kernel_rfl) (by kernel_rfl) ⟨1, rfl⟩ ?_
      repeat (first
        | (refine keep_step (v := ?_) (by rfl) (fun u K hS hK => ?_) ?_
           rotate_left
           · obtain ⟨nn, rfl⟩ := hS
             (go_simp; first
               | exact hK _ ⟨nn, rfl⟩
               | (go_at_call 95; refine (HS.out (w.drewN nn) H.out).mono ?_; rintro e u2 ⟨rfl, rfl⟩; exact hK _ ⟨nn, rfl⟩))
           simp only [Act.put, List.setIfInBounds_toArray, List.set_cons_zero, List.set_cons_succ]))
      refine keep_nil (fun w3 hS3 => ?_)
      obtain ⟨k3, rfl⟩ := hS3
      have H3 : Hid (RdS (w.drewN k3) g a m c ⟨at_, fa, 0⟩) := H.out
      have HG3 : Hid (w.grownBy (w.drewN k3) (some g)) := grown_drewN w k3 g
      clear c0 c1 c2 c3 hd hd2
      generalize w.drewN k3 = w3 at *
      go_wp2_with fail
      refine (err_c g a m c ⟨at_, fa, 0⟩ w3 H3.out).mono ?_
      intro e w5 hp
      have HP := hide (HK.out _ w3 H3.out HG3.out e w5 hp)
      obtain ⟨v, rfl, _⟩ := hp
      go_wp2
      go_ret
      exact HP.out
  · have e1 : s.fin m = s := by unfold Rs.fin; rw [if_neg (fun h => hfe h.1)]
    rw [e1]
    clear e1
    have hb : (s.fe == 0) = false := by simp [hfe]
    rw [hb] at HS
    clear hb hfe c0 c1 c2 c3
    go_enter Tryd.func54, Tryd.ntmps54
    go_wp2_with fail
    refine wp_region_keep (fun u => ∃ k, u = w.drewN k) (by kernel_rfl) (by kernel_rfl) ⟨1, rfl⟩ ?_
    repeat (first
      | (refine keep_not (by rfl) ?_
         simp only [Act.put, List.setIfInBounds_toArray, List.set_cons_zero, List.set_cons_succ])
      | (refine keep_step (v := ?_) (by rfl) (fun u K hS hK => ?_) ?_
         rotate_left
         · obtain ⟨nn, rfl⟩ := hS
           (go_simp; first
             | exact hK _ ⟨nn, rfl⟩
             | (go_at_call 95; refine (HS.out (w.drewN nn) H.out).mono ?_; rintro e u2 ⟨rfl, rfl⟩; exact hK _ ⟨nn, rfl⟩))
         simp only [Act.put, List.setIfInBounds_toArray, List.set_cons_zero, List.set_cons_succ]))
    refine keep_nil (fun w3 hS3 => ?_)
    obtain ⟨k3, rfl⟩ := hS3
    have H3 : Hid (RdS (w.drewN k3) g a m c s) := H.out
    have HG3 : Hid (w.grownBy (w.drewN k3) (some g)) := grown_drewN w k3 g
    generalize w.drewN k3 = w3 at *
    go_wp2_with fail
    refine (err_c g a m c s w3 H3.out).mono ?_
    intro e w5 hp
    have HP := hide (HK.out _ w3 H3.out HG3.out e w5 hp)
    obtain ⟨v, rfl, _⟩ := hp
    go_wp2
    go_ret
    exact HP.out
theorem EndP.isErr {w w' : World} {g : Nat} {a : Option Addr} {m c : Nat} {s : Rs} {e : Ending} (h : EndP w g a m c s e w') : ∃ v, e = .returned v ∧ IsErr w' v s.fe (if s.fe = 0 then -1 else s.fa) ∧ RdS w' g a m c s ∧ w.grownBy w' (some g) := by
  obtain ⟨v, h1, h2, h3⟩ := h
  refine ⟨v, h1, ?_, h3⟩
  rcases h2 with ⟨h4, h5⟩ | ⟨h4, b, _, h5, h6⟩
  · rw [if_pos h4]; exact .inl ⟨h5, h4, rfl⟩
  · rw [if_neg h4]; exact .inr (.inr ⟨_, _, _, h5, h6⟩)
theorem some_nil (ad : Addr) (m c : Nat) (u : World) : Sem.run Tryd.prog (binOp BinOp.eql 31 (.slice (some ad) m c) (.slice none 0 0)) u = .ok (.bool false) u := by kernel_rfl
/-- bytes.Clone of what is not nil. -/
theorem clone_some (ad : Addr) (m c : Nat) (L : List Nat) (w : World) (hs : SrcB w (some ad) m L) (hm : m ≤ 70368744177664) :
    Calls Tryd.prog 90 #[.slice (some ad) m c] w fun e w' => ∃ g cap, e = .returned (.slice (some ⟨g, 0, none⟩) m cap) ∧ w.heap.size ≤ g ∧ Dst w' g m cap L ∧ Below w.heap.size w w' := by
  have HS := hide (hs.below (below_new w (.cells #[] 5)))
  clear hs
  have HD0 : Hid (Dst (w.alloc (.cells #[] 5)) w.heap.size 0 0 []) := hide (dst_new w [] #[] 5 (0, 0) rfl (by intro x hx; cases hx) (by simp [maxLen]))
  have HN := hide (some_nil ad m c w)
  go_enter Tryd.func90, Tryd.ntmps90
  go_wp2_with fail
  rw [HN.out]
  go_wp2_with (refine wpList_append_dst rfl _ _ rfl w.heap.size 0 0 [] (some ad) m c L rfl rfl HD0.out HS.out (by omega) (fun h => by cases h) ?_)
  intro g cap w2 HD HG hgg HK
  refine of_hid ?_
  have hg : w.heap.size ≤ g := by
    rcases hgg with h | h
    · omega
    · omega
  have hb0 := below_new w (.cells #[] 5)
  have HB := hide (belowG hb0 HG.out (Nat.le_refl _) hb0.size)
  clear hb0
  go_wp2
  go_ret
  exact ⟨g, cap, rfl, hg, HD.out, HB.out⟩
def TextP (w : World) (g : Nat) (a : Option Addr) (m c : Nat) (s : Rs) (D : List Nat) (e : Ending) (w' : World) : Prop :=
  ∃ v, e = .returned v ∧ (s.fe ≠ 0 ∧ v = .slice none 0 0 ∧ D = [] ∨ s.fe = 0 ∧ ∃ b cap, v = .slice (some ⟨b, 0, none⟩) D.length cap ∧ w.heap.size ≤ b ∧ Dst w' b D.length cap D) ∧ RdS w' g a m c s ∧ w.grownBy w' (some g)
theorem src_kept {w w' : World} {a : Option Addr} {m g : Nat} {L : List Nat} (h : SrcB w a m L) (hg : w.grownBy w' (some g)) (hga : ∀ ad, a = some ad → 0 < m → ad.block ≠ g) : SrcB w' a m L := by
  obtain ⟨hl, h8, b, off, ha, hc⟩ := h
  refine ⟨hl, h8, b, off, ha, fun i hi => ?_⟩
  have e := ha (by omega)
  rw [World.cell?_of_block (a := ⟨b, off + i, none⟩) (hg.block b (cell_lt (hc i hi)) (fun e' => hga _ e (by omega) (by injection e')))]
  exact hc i hi
theorem src_mid {w : World} {a : Option Addr} {m : Nat} {L : List Nat} (h : SrcB w a m L) (i n : Nat) (hi : i + n ≤ m) : SrcB w (a.map (·.add i)) n ((L.drop i).take n) := by
  obtain ⟨hl, h8, b, off, ha, hc⟩ := h
  refine ⟨by rw [List.length_take, List.length_drop]; omega, all8_take (all8_drop h8 _) _, b, off + i, fun h0 => ?_, fun j hj => ?_⟩
  · rw [ha (by omega)]; simp [Addr.add_mid]
  · rw [Nat.add_assoc, hc (i + j) (by omega)]
    simp only [List.getD, List.getElem?_take_of_lt hj, List.getElem?_drop]
set_option maxHeartbeats 1600000 in
theorem text_c (g : Nat) (a : Option Addr) (m c : Nat) (L : List Nat) (s : Rs) (w : World) (h : RdS w g a m c s) (hs : SrcB w a m L) (hga : ∀ ad, a = some ad → 0 < m → ad.block ≠ g) (hnil : a = none → m = 0) (hat : s.at_ ≤ m) (hmc : m ≤ c) (hm : m ≤ 70368744177664) :
    Calls Tryd.prog 52 #[.pointer (some ⟨g, 0, none⟩)] w (TextP w g a m c (s.text L) (s.textV L)) := by
  have hLm := hs.1
  have hnm := Rs.numV_max s L
  have hna := Rs.num_at s L (by omega)
  have hpa := Rs.pre_at s L
  have hpf := Rs.pre_fits s L
  have hpn : m = 0 → (s.pre L).fe ≠ 0 := fun h0 => Rs.pre_nil s L (List.length_eq_zero_iff.1 (by omega))
  rw [hLm] at hna hpf
  have HN := hide (num_c g a m c L s w h hs hat hmc (by omega))
  have HH : Hid (∀ u, RdS u g a m c (s.mid L) → Calls Tryd.prog 94 #[.pointer (some ⟨g, 0, none⟩), .int .i64 ((s.numV L : Nat) : Int)] u (RdP u g a m c (s.pre L) (.bool (decide ((s.pre L).fe = 0))))) := fun u hu => by
    have := has_c g a m c (s.numV L) (s.mid L) u hu (by omega) (by unfold Rs.mid; split <;> exact hna.1) (by omega)
    unfold Rs.pre
    rw [hLm]
    exact this
  have HS := hide hs
  obtain ⟨c0, c1, c2, c3⟩ := h.cells
  clear h hs
  have Hmid1 : Hid (4096 < s.numV L → s.mid L = ⟨(s.num L).at_, (s.at_ : Int), 2⟩) := fun h => by unfold Rs.mid; rw [if_pos h]
  have Hmid2 : Hid (¬ 4096 < s.numV L → s.mid L = s.num L) := fun h => by unfold Rs.mid; rw [if_neg h]
  have Hgoal : Hid (∀ e w', (∃ v, e = .returned v ∧ ((s.pre L).fe ≠ 0 ∧ v = .slice none 0 0 ∧ RdS w' g a m c ⟨s.at_, (s.pre L).fa, (s.pre L).fe⟩ ∨ (s.pre L).fe = 0 ∧ RdS w' g a m c ⟨(s.num L).at_ + s.numV L, (s.pre L).fa, (s.pre L).fe⟩ ∧ ∃ b cap, v = .slice (some ⟨b, 0, none⟩) (s.numV L) cap ∧ w.heap.size ≤ b ∧ Dst w' b (s.numV L) cap ((L.drop (s.num L).at_).take (s.numV L))) ∧ w.grownBy w' (some g)) → TextP w g a m c (s.text L) (s.textV L) e w') := by
    intro e w' ⟨v, h1, h2, h3⟩
    refine ⟨v, h1, ?_, ?_, h3⟩
    · rcases h2 with ⟨h4, h5, _⟩ | ⟨h4, h5, b, cap, h6, h7, h8⟩
      · unfold Rs.text Rs.textV
        rw [if_neg h4, if_neg h4]
        exact .inl ⟨h4, h5, rfl⟩
      · unfold Rs.text Rs.textV
        rw [if_pos h4, if_pos h4]
        have hl : ((L.drop (s.num L).at_).take (s.numV L)).length = s.numV L := h8.len
        exact .inr ⟨h4, b, cap, by rw [hl]; exact h6, h7, by rw [hl]; exact h8⟩
    · rcases h2 with ⟨h4, h5, h6⟩ | ⟨h4, h5, b, cap, h6, h7, h8⟩
      · unfold Rs.text; rw [if_neg h4]; exact h6
      · unfold Rs.text; rw [if_pos h4, hpa]; exact h5
  refine Calls.mono ?_ Hgoal.out
  clear Hgoal
  obtain ⟨s0, fa0, fe0⟩ := s
  simp only at c1 c2 c3 hat hna Hmid1 ⊢
  generalize Rs.numV ⟨s0, fa0, fe0⟩ L = n at *
  generalize Rs.num ⟨s0, fa0, fe0⟩ L = s1 at *
  generalize Rs.mid ⟨s0, fa0, fe0⟩ L = s2 at *
  generalize Rs.pre ⟨s0, fa0, fe0⟩ L = s3 at *
  obtain ⟨at1, fa1, fe1⟩ := s1
  obtain ⟨at3, fa3, fe3⟩ := s3
  simp only at hpf hpa hpn hna HH Hmid1 Hmid2 ⊢
  subst hpa
  go_enter Tryd.func52, Tryd.ntmps52
  go_wp2_with fail
  refine HN.out.mono ?_
  rintro e w1 ⟨rfl, h1, hg1⟩
  have H1 := hide h1
  have HG1 := hide hg1
  have HS1 := hide (src_kept HS.out hg1 hga)
  clear h1 hg1 HN HS c0 c1 c2 c3
  have K2 : Hid (∃ w2, RdS w2 g a m c s2 ∧ w.grownBy w2 (some g) ∧ True) → True := fun _ => trivial
  by_cases hbig : 4096 < n
  · have hd : decide ((4096 : Int) < (n : Int)) = true := by simp; omega
    have e2 := Hmid1.out hbig
    subst e2
    have hfe3 : ¬ fe3 = 0 := fun h0 => by have := hpf h0; omega
    rw [decide_eq_false hfe3] at HH
    have Hfe3 := hide hfe3
    clear hfe3 hpf hpn hnil hbig K2
    go_wp2_with fail
    refine (fail_c g a m c _ _ _ (s0 : Int) 2 w1 H1.out).mono ?_
    rintro e w2 ⟨rfl, hr2, hg2⟩
    have H2 := hide hr2
    have HG2 := hide (grown_trans HG1.out hg2)
    clear hr2 hg2 H1 HG1 HS1
    go_wp2_with fail
    refine (HH.out w2 H2.out).mono ?_
    rintro e w3 ⟨rfl, hr3, hg3⟩
    have H3 := hide hr3
    have HG3 := hide (grown_trans HG2.out hg3)
    obtain ⟨c0, c1, c2, c3⟩ := hr3.cells
    have f1 := hr3.free 1
    clear hr3 hg3 H2 HG2 HH
    go_wp2
    go_ret
    exact ⟨_, rfl, .inl ⟨Hfe3.out, rfl, H3.out.setAt _⟩, grown_setCell HG3.out 1 _⟩
  · have hd : decide ((4096 : Int) < (n : Int)) = false := by simp; omega
    have e2 := Hmid2.out hbig
    subst e2
    by_cases hfe3 : fe3 = 0
    · have hfit := hpf hfe3
      obtain ⟨ad, rfl⟩ : ∃ ad, a = some ad := by
        cases a with
        | none => exact absurd hfe3 (hpn (hnil rfl))
        | some ad => exact ⟨ad, rfl⟩
      rw [decide_eq_true hfe3] at HH
      have Hfe3 := hide hfe3
      clear hfe3 hpf hpn hnil K2
      go_wp2_with fail
      refine (HH.out w1 H1.out).mono ?_
      rintro e w3 ⟨rfl, hr3, hg3⟩
      have H3 := hide hr3
      have HG3 := hide (grown_trans HG1.out hg3)
      have HS3 := hide (src_kept HS1.out hg3 hga)
      clear hr3 hg3 H1 HG1 HH HS1
      go_wp2_with fail
      refine (next_c g (some ad) m c at3 n fa3 fe3 w3 H3.out hfit.1 hmc (by omega)).mono ?_
      rintro e w4 ⟨A', hA', rfl, hr4, hg4⟩
      have H4 := hide hr4
      have HG4 := hide (grown_trans HG3.out hg4)
      have hs4 := src_mid (src_kept HS3.out hg4 hga) at3 n hfit.1
      obtain ⟨ad', hA2, hs5⟩ : ∃ ad', A' = some ad' ∧ SrcB w4 (some ad') n ((L.drop at3).take n) := by
        by_cases hc : c = at3
        · rw [if_pos hc] at hA'
          have hn0 : n = 0 := by omega
          subst hn0
          exact ⟨ad, hA', by rw [List.take_zero]; exact SrcB.nil _ _⟩
        · rw [if_neg hc] at hA'
          exact ⟨ad.add at3, hA', by simpa using hs4⟩
      subst hA2
      clear hA' hs4
      have HS5 := hide hs5
      clear hr4 hg4 H3 HG3 HS3 hs5
      go_wp2_with fail
      refine (clone_some ad' n (c - at3) _ w4 HS5.out (by omega)).mono ?_
      rintro e w5 ⟨b, cap, rfl, hb, hd5, hb5⟩
      have HD5 := hide hd5
      have HG5 := hide (grown_below HG4.out hb5)
      have H5 := hide (below_blk hb5 (heap_lt H4.out) H4.out)
      have hb' : w.heap.size ≤ b := Nat.le_trans HG4.out.size hb
      clear hd5 hb5 H4 HG4 hb
      go_wp2
      go_ret
      exact ⟨_, rfl, .inr ⟨Hfe3.out, H5.out, b, cap, rfl, hb', HD5.out⟩, HG5.out⟩
    · rw [decide_eq_false hfe3] at HH
      have Hfe3 := hide hfe3
      clear hfe3 hpf hpn hnil K2
      go_wp2_with fail
      refine (HH.out w1 H1.out).mono ?_
      rintro e w3 ⟨rfl, hr3, hg3⟩
      have H3 := hide hr3
      have HG3 := hide (grown_trans HG1.out hg3)
      obtain ⟨c0, c1, c2, c3⟩ := hr3.cells
      have f1 := hr3.free 1
      clear hr3 hg3 H1 HG1 HH HS1
      go_wp2
      go_ret
      exact ⟨_, rfl, .inl ⟨Hfe3.out, rfl, H3.out.setAt _⟩, grown_setCell HG3.out 1 _⟩
end Go.Proofs.YtpaijhmbfljfmaaDoor.Cw
/- Sum of the Reader at any state. -/
namespace Go.Proofs.YtpaijhmbfljfmaaDoor.Cv
def Rs.sum (s : Rs) (L : List Nat) : Rs := if (s.has L.length 32).fe = 0 then ⟨s.at_ + 32, s.fa, s.fe⟩ else s.has L.length 32
def Rs.sumV (s : Rs) (L : List Nat) : List Nat := if (s.has L.length 32).fe = 0 then (L.drop s.at_).take 32 else Go.Proofs.YtpaijhmbfljfmaaDoor.Ba.zeros 32
end Go.Proofs.YtpaijhmbfljfmaaDoor.Cv
namespace Go.Proofs.YtpaijhmbfljfmaaDoor.Cx
set_option linter.unusedVariables false
set_option linter.unusedSimpArgs false
set_option maxRecDepth 100000
open Go.ChangeShapes Go.WideShapes Go.ChangeAt Go.RowKit
open Go.Proofs.YtpaijhmbfljfmaaDoor.Wu Go.Proofs.YtpaijhmbfljfmaaDoor.Sm Go.Proofs.YtpaijhmbfljfmaaDoor.Sh Go.Proofs.YtpaijhmbfljfmaaDoor.Ba Go.Proofs.YtpaijhmbfljfmaaDoor.Bp Go.Proofs.YtpaijhmbfljfmaaDoor.Bq Go.Proofs.YtpaijhmbfljfmaaDoor.Cm Go.Proofs.YtpaijhmbfljfmaaDoor.Cn Go.Proofs.YtpaijhmbfljfmaaDoor.Cr Go.Proofs.YtpaijhmbfljfmaaDoor.Cs Go.Proofs.YtpaijhmbfljfmaaDoor.Rg Go.Proofs.YtpaijhmbfljfmaaDoor.Ct Go.Proofs.YtpaijhmbfljfmaaDoor.Er Go.Proofs.YtpaijhmbfljfmaaDoor.Eu Go.Proofs.YtpaijhmbfljfmaaDoor.Cv Go.Proofs.YtpaijhmbfljfmaaDoor.Cw
attribute [local go_sem] Rk.kUpon_value Rk.kUpon_skip Rk.kUpon_enter
theorem zlit8 : (#[Value.int IntKind.u8 0, Value.int IntKind.u8 0, Value.int IntKind.u8 0, Value.int IntKind.u8 0, Value.int IntKind.u8 0, Value.int IntKind.u8 0, Value.int IntKind.u8 0, Value.int IntKind.u8 0, Value.int IntKind.u8 0, Value.int IntKind.u8 0, Value.int IntKind.u8 0, Value.int IntKind.u8 0, Value.int IntKind.u8 0, Value.int IntKind.u8 0, Value.int IntKind.u8 0, Value.int IntKind.u8 0, Value.int IntKind.u8 0, Value.int IntKind.u8 0, Value.int IntKind.u8 0, Value.int IntKind.u8 0, Value.int IntKind.u8 0, Value.int IntKind.u8 0, Value.int IntKind.u8 0, Value.int IntKind.u8 0, Value.int IntKind.u8 0, Value.int IntKind.u8 0, Value.int IntKind.u8 0, Value.int IntKind.u8 0, Value.int IntKind.u8 0, Value.int IntKind.u8 0, Value.int IntKind.u8 0, Value.int IntKind.u8 0] : Array Value) = u8s (zeros 32) := by rfl
theorem alenS : Tryd.prog.arrayLen 27 = 32 := by simp [Program.arrayLen, Tryd.underlying27]
theorem aelemS : Tryd.prog.elem 27 = 5 := by simp [Program.elem, Tryd.underlying27]
theorem infoS : (Tryd.prog.info? 27).map (·.size) = some 32 := by kernel_rfl
theorem sliceAllS (u : World) (B : Nat) :
    Sem.run Tryd.prog (Instr.sliceAt 27 (.pointer (some ⟨B, 0, none⟩)) none none none) u = .ok (.slice (some ⟨B, 0, none⟩) 32 32) u := by
  rw [run_sliceAt_array_all u 27 ⟨B, 0, none⟩ (by rw [alenS, aelemS]; exact Tryd.underlying27), aelemS, size_u8, alenS]
  simp only [Result.andThen, slicedAt, Nat.mul_one]
  rw [if_neg (by omega), Addr.add_mid]
theorem kUpon_copy {a : Act} {o : Oper} {u w' : World} {K : Value → World → Prop} {v y v' : Value} (s x : Operand) (ho : o.op = .call { callee := .builtin .copy, args := #[s, x], argTypes := #[31, 31] }) (hs : a.eval s = v) (hx : a.eval x = y)
    (hrun : (Builtin.copy_ #[31, 31] o.type #[v, y]).run Tryd.prog u = .ok v' w') (h : K v' w') : Rk.kUpon Tryd.prog K ((execOp a.eval o).run Tryd.prog u) := by
  have e : (execOp a.eval o).run Tryd.prog u = .ok (.value v') w' := by
    simp [execOp, ho, resolve, invoke, builtin, hs, hx, hrun, Result.andThen]
  rw [e]
  exact h
theorem grown_new {w u u' : World} {k : Option Nat} {B : Nat} (h : w.grownBy u k) (hB : w.heap.size ≤ B) (hg : u.grownBy u' (some B)) : w.grownBy u' k :=
  ⟨hg.os.trans h.os, hg.tape.trans h.tape, hg.output.trans h.output, Nat.le_trans h.size hg.size, fun b hb hne => (hg.block b (Nat.lt_of_lt_of_le hb h.size) (fun e => by injection e with e; omega)).trans (h.block b hb hne)⟩
theorem grown_setRow (w : World) (g : Nat) (cs : Array Value) : w.grownBy (w.setRow g cs) (some g) :=
  ⟨rfl, rfl, rfl, by simp [World.setRow], fun b hb hne => setRow_other w g b cs (fun e => hne (by rw [e]))⟩
/-- Where the walk through the copy is. -/
def stage (g : Nat) (ad : Addr) (m c : Nat) (s s' : Rs) (SB : Nat) (X : List Nat) (u : World) : List Value → Prop
  | [] => RdS u g (some ad) m c s ∧ u.heap[SB]? = some (.cells (u8s (zeros 32)) 27 (0, 0))
  | [_] => RdS u g (some ad) m c s' ∧ u.heap[SB]? = some (.cells (u8s (zeros 32)) 27 (0, 0))
  | _ => RdS u g (some ad) m c s' ∧ u.heap[SB]? = some (.cells (u8s X) 27 (0, 0))
structure T (w : World) (g : Nat) (ad : Addr) (m c : Nat) (s s' : Rs) (L : List Nat) (RB SB : Nat) (X : List Nat) (h : List Value) (u : World) : Prop where
  grown : w.grownBy u (some g)
  res : u.heap[RB]? = some (.cells (u8s (zeros 32)) 27 (0, 0))
  src : SrcB u (some ad) m L
  stage : stage g ad m c s s' SB X u h
set_option maxHeartbeats 1600000 in
theorem sum_c (g : Nat) (a : Option Addr) (m c : Nat) (L : List Nat) (s : Rs) (w : World) (h : RdS w g a m c s) (hs : SrcB w a m L) (hga : ∀ ad, a = some ad → 0 < m → ad.block ≠ g) (hnil : a = none → m = 0) (hat : s.at_ ≤ m) (hmc : m ≤ c) (hm : m ≤ 70368744177664) :
    Calls Tryd.prog 53 #[.pointer (some ⟨g, 0, none⟩)] w (RdP w g a m c (s.sum L) (.agg (u8s (s.sumV L)))) := by
  have hLm := hs.1
  have hgl := heap_lt h
  have hb0 := ((Below.refl w.heap.size w).alloc (Nat.le_refl _) (.cells (u8s (zeros 32)) 27)).alloc (by simp) (.cells (u8s (zeros 32)) 27)
  have HR0 := hide (heap_2a w (.cells (u8s (zeros 32)) 27) (.cells (u8s (zeros 32)) 27))
  have HO0 := hide (heap_2b w (.cells (u8s (zeros 32)) 27) (.cells (u8s (zeros 32)) 27))
  have HS0 := hide (hs.below hb0)
  have H0 := hide (below_blk hb0 hgl h)
  have HG0 := hide (below_grown hb0 (some g))
  have hadl : ∀ ad, a = some ad → 0 < m → ad.block < w.heap.size := fun ad e h0 => by
    obtain ⟨_, _, b, off, ha, hc⟩ := hs
    have := ha h0
    rw [this] at e
    injection e with e
    subst e
    exact cell_lt (hc 0 h0)
  clear h hs hb0
  unfold Rs.sum Rs.sumV
  rw [hLm]
  by_cases hok : (s.has m 32).fe = 0
  · have hs1 : s.has m 32 = s ∧ s.at_ + 32 ≤ m := by
      unfold Rs.has at hok ⊢
      by_cases hc : s.fe = 0 ∧ m < s.at_ + 32
      · rw [if_pos hc] at hok; simp at hok
      · rw [if_neg hc] at hok
        rw [if_neg hc]
        exact ⟨rfl, by omega⟩
    obtain ⟨hs1, hs2⟩ := hs1
    obtain ⟨ad, rfl⟩ : ∃ ad, a = some ad := by
      cases a with
      | none => have := hnil rfl; omega
      | some ad => exact ⟨ad, rfl⟩
    have hadl1 := hadl ad rfl
    clear hnil hadl
    rw [if_pos hok, if_pos hok]
    have HH := hide (fun u (hu : RdS u g (some ad) m c s) => has_c g (some ad) m c 32 s u hu (by omega) hat (by omega))
    rw [hs1] at HH hok
    rw [decide_eq_true hok] at HH
    clear hok hs1
    obtain ⟨at_, fa, fe⟩ := s
    simp only at hs2 HH ⊢
    have hXl : ((L.drop at_).take 32).length = 32 := by rw [List.length_take, List.length_drop]; omega
    have HX := hide (fun u (hu : SrcB u (some ad) m L) => src_mid hu at_ 32 hs2)
    generalize (L.drop at_).take 32 = X at *
    have HXl := hide hXl
    clear hXl
    go_enter Tryd.func53, Tryd.ntmps53
    go_wp2_with fail
    rw [zlit8]
    generalize ((w.alloc (.cells (u8s (zeros 32)) 27)).alloc (.cells (u8s (zeros 32)) 27)) = w0 at *
    refine (HH.out w0 H0.out).mono ?_
    rintro e w1 ⟨rfl, h1, hg1⟩
    have H1 := hide h1
    have HG1 := hide (grown_trans HG0.out hg1)
    have HR1 := hide (keepG hg1 (by omega) HR0.out)
    have HO1 := hide (keepG hg1 (by omega) HO0.out)
    have HS1 := hide (src_kept HS0.out hg1 hga)
    clear h1 hg1 H0 HG0 HR0 HO0 HS0
    have mixed : Tryd.prog.follows Departure.mixedOrders = true := by kernel_rfl
    have hsa := fun v : World => sliceAllS v (w.heap.size + 1)
    go_wp2_with fail
    have HT0 : Hid (T w g ad m c ⟨at_, fa, fe⟩ ⟨at_ + 32, fa, fe⟩ L w.heap.size (w.heap.size + 1) X [] w1.drew) := hide ⟨⟨HG1.out.os, HG1.out.tape, HG1.out.output, HG1.out.size, HG1.out.block⟩, HR1.out, HS1.out, H1.out, HO1.out⟩
    refine wp_region_g (T w g ad m c ⟨at_, fa, fe⟩ ⟨at_ + 32, fa, fe⟩ L w.heap.size (w.heap.size + 1) X) [some (some ?_), some (some ?_), none, none] mixed (by kernel_rfl) [2, 3] [2, 3] rfl rfl (by kernel_rfl) HT0.out ?_
    rotate_left 2
    repeat (
      refine gF_step (by rfl) (fun h u K hT hK => ?_) ?_
      · go_simp
        exact hK _ hT
      simp only [Act.put, List.setIfInBounds_toArray, List.set_cons_zero, List.set_cons_succ])
    refine gE_step (v := .slice (some (ad.add at_)) 32 (c - at_)) (by rfl) (fun u K hT hK => ?_) ?_
    · go_simp
      refine (next_c g (some ad) m c at_ 32 fa fe u hT.stage.1 hs2 hmc (by omega)).mono ?_
      rintro e u' ⟨A', hA', rfl, hr, hg⟩
      rw [if_neg (by omega)] at hA'
      simp only [Option.map_some] at hA'
      subst hA'
      exact hK _ ⟨grown_trans hT.grown hg, keepG hg (by omega) hT.res, src_kept hT.src hg hga, hr, keepG hg (by omega) hT.stage.2⟩
    simp only [Act.put, List.setIfInBounds_toArray, List.set_cons_zero, List.set_cons_succ]
    refine gE_step (v := goInt 32) (by rfl) (fun u K hT hK => ?_) ?_
    · have hrun := run_copy_row (P := Tryd.prog) u 31 31 3 5 (w.heap.size + 1) 0 32 32 (ad.add at_) 32 (c - at_) (u8s (zeros 32)) 27 (b8 X) Tryd.underlying31 info_u8s hT.stage.2
        (by rw [b8_length, HXl.out]; rfl) (fun j v hv => by
          obtain ⟨hj, rfl⟩ := b8_at hv
          rw [HXl.out] at hj
          obtain ⟨_, _, b, off, ha, hc⟩ := HX.out u hT.src
          have := ha (by omega)
          simp only [Option.map_some, Option.some.injEq] at this
          rw [this, Addr.add_mid]
          exact hc j hj) (by rw [b8_length, HXl.out, u8s_size, zeros_length]; omega) (b8_one X)
      have e1 : ((u8s (zeros 32)).toList.take 0 ++ b8 X ++ (u8s (zeros 32)).toList.drop (0 + (b8 X).length)).toArray = u8s X := by
        rw [b8_length, HXl.out, List.take_zero, List.nil_append, List.drop_eq_nil_of_le (by rw [Array.length_toList, u8s_size, zeros_length]; omega), List.append_nil]
        rfl
      rw [e1, b8_length, HXl.out] at hrun
      refine kUpon_copy (.tmp 6) (.tmp 8) rfl rfl rfl hrun ?_
      have hgr := grown_setRow u (w.heap.size + 1) (u8s X)
      refine hK _ ⟨grown_new hT.grown (by omega) hgr, keepG hgr (by omega) hT.res, src_kept hT.src hgr (fun x hx h0 => ?_), keepG hgr (by omega) hT.stage.1, setRow_heap u (w.heap.size + 1) _ (u8s X) _ _ hT.stage.2⟩
      injection hx with hx
      subst hx
      have := hadl1 (by omega)
      omega
    simp only [Act.put, List.setIfInBounds_toArray, List.set_cons_zero, List.set_cons_succ]
    refine g_nil (fun w3 hT => ?_)
    have H3 := hide hT.stage.1
    have HO3 := hide hT.stage.2
    have HR3 := hide hT.res
    have HG3 := hide hT.grown
    clear hT HT0 H1 HO1 HR1 HG1 HS1 hsa
    go_wp2_with (first | refine wpList_load_whole rfl 27 (.tmp 3) rfl (w.heap.size + 1) X 27 (0, 0) rfl HO3.out _ Tryd.underlying27 rfl (by rw [infoS, HXl.out]) ?_ | refine wpList_store_whole rfl 27 (.tmp 2) (.tmp 10) rfl w.heap.size X (zeros 32) 27 rfl rfl HR3.out (by rw [HXl.out, zeros_length]) (by rw [infoS, HXl.out]) ?_)
    intro w4 HR4 HG4
    refine of_hid ?_
    have H5 := hide (keepG HG4.out (by omega) H3.out)
    have HG5 := hide (grown_new HG3.out (Nat.le_refl _) HG4.out)
    clear HR3 HG3 H3 HO3 HG4
    go_wp2
    refine ret_whole Tryd.results53 w.heap.size X 27 (0, 0) rfl HR4.out _ Tryd.underlying27 rfl (by rw [infoS, HXl.out]) rfl ?_
    exact ⟨rfl, H5.out, HG5.out⟩
  · rw [if_neg hok, if_neg hok]
    clear hadl hnil
    have HH := hide (fun u (hu : RdS u g a m c s) => has_c g a m c 32 s u hu (by omega) hat (by omega))
    rw [decide_eq_false hok] at HH
    generalize s.has m 32 = s1 at *
    clear hok
    go_enter Tryd.func53, Tryd.ntmps53
    go_wp2_with fail
    rw [zlit8]
    generalize ((w.alloc (.cells (u8s (zeros 32)) 27)).alloc (.cells (u8s (zeros 32)) 27)) = w0 at *
    refine (HH.out w0 H0.out).mono ?_
    rintro e w1 ⟨rfl, h1, hg1⟩
    have H1 := hide h1
    have HG1 := hide (grown_trans HG0.out hg1)
    have HR1 := hide (keepG hg1 (by omega) HR0.out)
    have HO1 := hide (keepG hg1 (by omega) HO0.out)
    have HS1 := hide (src_kept HS0.out hg1 hga)
    clear h1 hg1 H0 HG0 HR0 HO0 HS0
    go_wp2_with (first | refine wpList_load_whole rfl 27 (.tmp 3) rfl (w.heap.size + 1) (zeros 32) 27 (0, 0) rfl HO1.out _ Tryd.underlying27 rfl (by rw [infoS, zeros_length]) ?_ | refine wpList_store_whole rfl 27 (.tmp 2) (.tmp 10) rfl w.heap.size (zeros 32) (zeros 32) 27 rfl rfl HR1.out rfl (by rw [infoS, zeros_length]) ?_)
    intro w4 HR4 HG4
    refine of_hid ?_
    have H5 := hide (keepG HG4.out (by omega) H1.out)
    have HG5 := hide (grown_new HG1.out (Nat.le_refl _) HG4.out)
    clear HR1 HG1 H1 HO1 HG4 HS1
    go_wp2
    refine ret_whole Tryd.results53 w.heap.size (zeros 32) 27 (0, 0) rfl HR4.out _ Tryd.underlying27 rfl (by rw [infoS, zeros_length]) rfl ?_
    exact ⟨rfl, H5.out, HG5.out⟩
end Go.Proofs.YtpaijhmbfljfmaaDoor.Cx
/- A reader of one's own over bytes that stay; what holds once something went wrong. -/
namespace Go.Proofs.YtpaijhmbfljfmaaDoor.Cv
set_option linter.unusedVariables false
set_option linter.unusedSimpArgs false
open Go.Proofs.YtpaijhmbfljfmaaDoor.Cr
theorem numP_code : ∀ (X : List Nat) (i n code : Nat), numP X i n = .bad code → code ≠ 0
  | [], i, n, code, h => by simp [numP] at h; omega
  | x :: X, i, n, code, h => by
    unfold numP at h
    split at h
    · injection h with h; omega
    · split at h
      · exact numP_code X _ _ _ h
      · split at h
        · injection h with h; omega
        · cases h
theorem numP_pos : ∀ (X : List Nat) (i n a k : Nat), numP X i n = .ok a k → i < k
  | [], i, n, a, k, h => by simp [numP] at h
  | x :: X, i, n, a, k, h => by
    unfold numP at h
    split at h
    · cases h
    · split at h
      · have := numP_pos X _ _ _ _ h; omega
      · split at h
        · cases h
        · injection h with h1 h2; omega
theorem Rs.num_moves (s : Rs) (L : List Nat) (h : s.fe = 0) (h' : (s.num L).fe = 0) : s.at_ < (s.num L).at_ := by
  unfold Rs.num at h' ⊢
  rw [if_pos h] at h' ⊢
  split at h' <;> rename_i hn
  · have := numP_pos _ _ _ _ _ hn
    simp only
    omega
  · have := numP_code _ _ _ _ hn
    simp only at h'
    omega
theorem Rs.has_stuck (s : Rs) (m n : Nat) (h : s.fe ≠ 0) : s.has m n = s := by unfold Rs.has; rw [if_neg (fun h' => h h'.1)]
theorem Rs.byte_stuck (s : Rs) (L : List Nat) (h : s.fe ≠ 0) : s.byte L = s ∧ s.byteV L = 0 := by
  unfold Rs.byte Rs.byteV
  rw [s.has_stuck _ _ h, if_neg h, if_neg h]
  exact ⟨rfl, rfl⟩
theorem Rs.num_stuck (s : Rs) (L : List Nat) (h : s.fe ≠ 0) : s.num L = s ∧ s.numV L = 0 := by
  unfold Rs.num Rs.numV
  rw [if_neg h, if_neg h]
  exact ⟨rfl, rfl⟩
theorem Rs.text_stuck (s : Rs) (L : List Nat) (h : s.fe ≠ 0) : s.text L = s ∧ s.textV L = [] := by
  have e : s.pre L = s := by
    unfold Rs.pre Rs.mid
    rw [(s.num_stuck L h).2, (s.num_stuck L h).1, if_neg (by omega), s.has_stuck _ _ h]
  unfold Rs.text Rs.textV
  rw [e, if_neg h, if_neg h]
  exact ⟨rfl, rfl⟩
theorem Rs.sum_stuck (s : Rs) (L : List Nat) (h : s.fe ≠ 0) : s.sum L = s ∧ s.sumV L = Go.Proofs.YtpaijhmbfljfmaaDoor.Ba.zeros 32 := by
  unfold Rs.sum Rs.sumV
  rw [s.has_stuck _ _ h, if_neg h, if_neg h]
  exact ⟨rfl, rfl⟩
theorem Rs.fin_stuck (s : Rs) (m : Nat) (h : s.fe ≠ 0) : s.fin m = s := by unfold Rs.fin; rw [if_neg (fun h' => h h'.1)]
end Go.Proofs.YtpaijhmbfljfmaaDoor.Cv
namespace Go.Proofs.YtpaijhmbfljfmaaDoor.Cz
set_option linter.unusedVariables false
set_option linter.unusedSimpArgs false
set_option maxRecDepth 100000
open Go.ChangeShapes Go.WideShapes Go.ChangeAt Go.RowKit
open Go.Proofs.YtpaijhmbfljfmaaDoor.Wu Go.Proofs.YtpaijhmbfljfmaaDoor.Sm Go.Proofs.YtpaijhmbfljfmaaDoor.Sh Go.Proofs.YtpaijhmbfljfmaaDoor.Ba Go.Proofs.YtpaijhmbfljfmaaDoor.Bp Go.Proofs.YtpaijhmbfljfmaaDoor.Cr Go.Proofs.YtpaijhmbfljfmaaDoor.Er Go.Proofs.YtpaijhmbfljfmaaDoor.Eu Go.Proofs.YtpaijhmbfljfmaaDoor.Cv Go.Proofs.YtpaijhmbfljfmaaDoor.Cw
/-- A new reader in block g over the bytes L, which lie elsewhere. -/
structure RV (w wr : World) (g : Nat) (a : Option Addr) (m c : Nat) (L : List Nat) (s : Rs) : Prop where
  rd : RdS wr g a m c s
  src : SrcB wr a m L
  below : Below w.heap.size w wr
  new : w.heap.size ≤ g
  apart : ∀ ad, a = some ad → 0 < m → ad.block ≠ g
section
variable {w wr w' : World} {g : Nat} {a : Option Addr} {m c : Nat} {L : List Nat} {s s' : Rs}
theorem RV.step (h : RV w wr g a m c L s) (hr : RdS w' g a m c s') (hg : wr.grownBy w' (some g)) : RV w w' g a m c L s' :=
  ⟨hr, src_kept h.src hg h.apart, belowG h.below hg h.new h.below.size, h.new, h.apart⟩
theorem RV.up (h : RV w wr g a m c L s) (hb : Below wr.heap.size wr w') : RV w w' g a m c L s :=
  ⟨below_blk hb (heap_lt h.rd) h.rd, h.src.below hb, keepB hb (Nat.le_refl _) h.below, h.new, h.apart⟩
theorem RV.et (h : RV w wr g a m c L s) (he : Et w) : Et wr := he.below h.below (Nat.le_refl _)
/-- code.Read of bytes that were there. -/
theorem RV.read {w1 : World} (hs : SrcB w1 a m L) (hb : Below w.heap.size w w1) :
    RV w (w1.alloc (.cells #[.slice a m c, .int .i64 0, .int .i64 0, .int .i64 0] 144)) w1.heap.size a m c L ⟨0, 0, 0⟩ :=
  ⟨heap_last _ _, hs.below (below_new _ _), hb.alloc hb.size _, hb.size, fun ad e h0 h => by
    obtain ⟨_, _, b, off, ha, hc⟩ := hs
    have h1 := ha h0
    rw [h1] at e
    injection e with e
    subst e
    have := cell_lt (hc 0 h0)
    simp only at this h
    omega⟩
end
end Go.Proofs.YtpaijhmbfljfmaaDoor.Cz
/- Texts that are read back; append of zeros, walked. -/
namespace Go.Proofs.YtpaijhmbfljfmaaDoor.Im
set_option linter.unusedVariables false
set_option linter.unusedSimpArgs false
set_option maxRecDepth 100000
open Go.ChangeShapes Go.WideShapes Go.ChangeAt Go.RowKit
open Go.Proofs.YtpaijhmbfljfmaaDoor.Wu Go.Proofs.YtpaijhmbfljfmaaDoor.Sm Go.Proofs.YtpaijhmbfljfmaaDoor.Sh Go.Proofs.YtpaijhmbfljfmaaDoor.Ba Go.Proofs.YtpaijhmbfljfmaaDoor.Bp Go.Proofs.YtpaijhmbfljfmaaDoor.Bq Go.Proofs.YtpaijhmbfljfmaaDoor.Bz Go.Proofs.YtpaijhmbfljfmaaDoor.Cm Go.Proofs.YtpaijhmbfljfmaaDoor.Cn Go.Proofs.YtpaijhmbfljfmaaDoor.Cr Go.Proofs.YtpaijhmbfljfmaaDoor.Cv Go.Proofs.YtpaijhmbfljfmaaDoor.Cw Go.Proofs.YtpaijhmbfljfmaaDoor.Cz
theorem numP_numL (R : List Nat) : ∀ (n i acc : Nat), (0 < i → 0 < n) → i + (numL n).length ≤ 6 → acc + n * 2 ^ (7 * i) ≤ 1099511627776 → numP (numL n ++ R) i acc = .ok (acc + n * 2 ^ (7 * i)) (i + (numL n).length) := by
  intro n
  induction n using Nat.strongRecOn with
  | _ n ih =>
    intro i acc hi hl hb
    by_cases h : n < 128
    · rw [numL_small n h] at hl ⊢
      simp only [List.length_cons, List.length_nil] at hl
      simp only [List.cons_append, List.nil_append, numP]
      have hm : n % 128 = n := Nat.mod_eq_of_lt h
      rw [hm, if_neg (by omega), if_neg (by omega), if_neg (by omega)]
      simp
    · rw [numL_big n h] at hl ⊢
      simp only [List.length_cons] at hl
      simp only [List.cons_append, numP]
      have hp := numL_pos (n / 128)
      have hm : (n % 128 + 128) % 128 = n % 128 := by omega
      have e : n * 2 ^ (7 * i) = n % 128 * 2 ^ (7 * i) + n / 128 * 2 ^ (7 * (i + 1)) := by
        have h1 : 2 ^ (7 * (i + 1)) = 128 * 2 ^ (7 * i) := by rw [show 7 * (i + 1) = 7 * i + 7 by omega, Nat.pow_add]; omega
        rw [h1]
        generalize 2 ^ (7 * i) = q
        have h2 := Nat.div_add_mod n 128
        calc n * q = (128 * (n / 128) + n % 128) * q := by rw [h2]
          _ = n % 128 * q + n / 128 * (128 * q) := by rw [Nat.add_mul, Nat.mul_comm 128 (n / 128), Nat.mul_assoc]; omega
      rw [if_neg (by omega), if_pos (by omega), hm, ih (n / 128) (by omega) (i + 1) _ (by omega) (by omega) (by rw [Nat.add_assoc, ← e]; exact hb), Nat.add_assoc, ← e]
      simp only [List.length_cons]
      congr 1
      omega
theorem wpList_append_zeros {w : World} {ops : Array Oper} {rest : List Oper} {o : Oper} {a : Act} {Q : Exit → Act → World → Prop} (hgd : o.guard = none) (s x : Operand)
    (ho : o.op = .call { callee := .builtin .append, args := #[s, x], argTypes := #[31, 3] }) (g n cap : Nat) (L : List Nat) (m : Nat)
    (hs : a.eval s = .slice (some ⟨g, 0, none⟩) n cap) (hx : a.eval x = .int .i64 (m : Int)) (hd : Dst w g n cap L) (hbig : n + m ≤ 70368744177664)
    (h : ∀ g' cap' w', Hid (Dst w' g' (n + m) cap' (L ++ List.replicate m 0)) → Hid (w.grownBy w' (some g)) → (g' = g ∨ g' = w.heap.size) → Hid (wpList Tryd.prog ops Q rest (a.put o.dst (.slice (some ⟨g', 0, none⟩) (n + m) cap')) w')) : wpList Tryd.prog ops Q (o :: rest) a w := by
  obtain ⟨g', cap', w', hrun, h1, h2, h3⟩ := append_zeros w o.type g n cap L m hd hbig
  refine wpList_plain hgd fun K hK => ?_
  unfold Oper.wp
  simp [execOp, ho, resolve, invoke, builtin, hs, hx, hrun, Result.andThen]
  exact hK _ _ (h g' cap' w' h1 h2 (h3.imp (·.1) (·.1)))
theorem num_back (A X R : List Nat) (i n : Nat) (fa : Int) (hA : A.length = i) (hn : n ≤ 1099511627776) :
    (Rs.mk i fa 0).num (A ++ (numL n ++ R)) = ⟨i + (numL n).length, fa, 0⟩ ∧ (Rs.mk i fa 0).numV (A ++ (numL n ++ R)) = n := by
  have e : (A ++ (numL n ++ R)).drop i = numL n ++ R := by rw [← hA, List.drop_left]
  have hp := numP_numL R n 0 0 (by omega) (by have := numL_six n hn; omega) (by simpa using hn)
  simp only [Nat.mul_zero, Nat.pow_zero, Nat.mul_one, Nat.zero_add] at hp
  unfold Rs.num Rs.numV
  simp only [e, hp, if_true]
  exact ⟨trivial, trivial⟩
theorem text_back (A X R : List Nat) (i n : Nat) (fa : Int) (hA : A.length = i) (hX : X.length = n) (hn : n ≤ 4096) :
    (Rs.mk i fa 0).text (A ++ (numL n ++ (X ++ R))) = ⟨i + (numL n).length + n, fa, 0⟩ ∧ (Rs.mk i fa 0).textV (A ++ (numL n ++ (X ++ R))) = X := by
  obtain ⟨h1, h2⟩ := num_back A X (X ++ R) i n fa hA (by omega)
  have h3 : (Rs.mk i fa 0).pre (A ++ (numL n ++ (X ++ R))) = ⟨i + (numL n).length, fa, 0⟩ := by
    unfold Rs.pre Rs.mid
    rw [h1, h2, if_neg (by omega)]
    unfold Rs.has
    rw [if_neg]
    simp only [List.length_append]
    omega
  unfold Rs.text Rs.textV
  rw [h3, h1, h2]
  simp only [if_true]
  refine ⟨trivial, ?_⟩
  rw [← List.append_assoc, ← hA, ← List.length_append, List.drop_left, ← hX, List.take_left]
theorem text_long (A R : List Nat) (i n : Nat) (fa : Int) (hA : A.length = i) (hn : 4096 < n) (hm : n ≤ 1099511627776) :
    (Rs.mk i fa 0).text (A ++ (numL n ++ R)) = ⟨i, (i : Int), 2⟩ ∧ (Rs.mk i fa 0).textV (A ++ (numL n ++ R)) = [] := by
  obtain ⟨h1, h2⟩ := num_back A [] R i n fa hA hm
  have h3 : (Rs.mk i fa 0).pre (A ++ (numL n ++ R)) = ⟨i + (numL n).length, (i : Int), 2⟩ := by
    unfold Rs.pre Rs.mid
    rw [h1, h2, if_pos (by omega)]
    unfold Rs.has
    rw [if_neg]
    simp
  unfold Rs.text Rs.textV
  rw [h3]
  simp
end Go.Proofs.YtpaijhmbfljfmaaDoor.Im
/- A region that asks the tape for its order, walked in the order of the text, where some operations (in one forced order among themselves) yield values that hang on the world, and all others yield one value each. For any program. -/
namespace Go.Proofs.YtpaijhmbfljfmaaDoor.Rm
set_option linter.unusedVariables false
set_option linter.unusedSimpArgs false
set_option maxRecDepth 100000
open Go.Proofs.YtpaijhmbfljfmaaDoor.Rk
section
variable {P : Program} {ops : Array Oper} {md : Region.Mode} {T : List Value → World → Prop}
/-- The operation yields v in every world of every stage, and keeps the stage. -/
def KeepsF (P : Program) (ops : Array Oper) (T : List Value → World → Prop) (o : Oper) (v : Value) (a : Act) : Prop :=
  (Region.wanted o (yielded ops a.tmps) = true ∧ ∀ (h : List Value) (w : World) (K : Value → World → Prop), T h w → (∀ w', T h w' → K v w') → kUpon P K ((execOp a.eval o).run P w)) ∨
  (Region.wanted o (yielded ops a.tmps) = false ∧ v = undef)
/-- The operation leads from this stage to the next one, whatever it yields (of the kind V). -/
def KeepsD (P : Program) (ops : Array Oper) (T : List Value → World → Prop) (h : List Value) (V : Value → Prop) (o : Oper) (a : Act) : Prop :=
  Region.wanted o (yielded ops a.tmps) = true ∧ (∃ v, V v) ∧ ∀ (w : World) (K : Value → World → Prop), T h w → (∀ v w', V v → T (h ++ [v]) w' → K v w') → kUpon P K ((execOp a.eval o).run P w)
theorem KeepsF.of_same {o : Oper} {v : Value} {a a' : Act} (hy : KeepsF P ops T o v a) (he : execOp a'.eval o = execOp a.eval o)
    (hw : Region.wanted o (yielded ops a'.tmps) = Region.wanted o (yielded ops a.tmps)) : KeepsF P ops T o v a' := by
  unfold KeepsF at *
  rw [he, hw]
  exact hy
theorem KeepsD.of_same {h : List Value} {V : Value → Prop} {o : Oper} {a a' : Act} (hy : KeepsD P ops T h V o a) (he : execOp a'.eval o = execOp a.eval o)
    (hw : Region.wanted o (yielded ops a'.tmps) = Region.wanted o (yielded ops a.tmps)) : KeepsD P ops T h V o a' := by
  unfold KeepsD at *
  rw [he, hw]
  exact hy
/-- In whatever order; 'c k' is the value of the k-th operation, none if it hangs on the world. -/
def wpAnyD (P : Program) (md : Region.Mode) (ops : Array Oper) (T : List Value → World → Prop) (c : Nat → Option Value) (Q : Act → List Value → Prop) : Nat → Array Bool → Act → List Value → Prop
  | 0, listed, a, h => Region.ready md ops listed = [] ∧ Q a h
  | fuel + 1, listed, a, h => (Region.ready md ops listed = [] → Q a h) ∧
      ∀ i ∈ Region.ready md ops listed, ∀ o, ops[i]? = some o →
        (∀ v, c i = some v → KeepsF P ops T o v a ∧ wpAnyD P md ops T c Q fuel (listed.setIfInBounds i true) (a.put o.dst v) h) ∧
        (c i = none → ∃ V : Value → Prop, KeepsD P ops T h V o a ∧ ∀ v, V v → wpAnyD P md ops T c Q fuel (listed.setIfInBounds i true) (a.put o.dst v) (h ++ [v]))
theorem wpAny_of_D {c : Nat → Option Value} {Q : Act → List Value → Prop} {Q' : Exit → Act → World → Prop} (hQ : ∀ a h, Q a h → ∀ w, T h w → Q' .normal a w) :
    ∀ (fuel : Nat) (listed : Array Bool) (a : Act) (h : List Value) (w : World), T h w → wpAnyD P md ops T c Q fuel listed a h → wpAny P md ops Q' fuel listed a w
  | 0, listed, a, h, w, hS, H => ⟨H.1, hQ a h H.2 w hS⟩
  | fuel + 1, listed, a, h, w, hS, H => by
    refine ⟨fun h0 => hQ a h (H.1 h0) w hS, fun i hi => ?_⟩
    unfold wpOp
    cases ho : ops[i]? with
    | none =>
      obtain ⟨_, o, hoo, _⟩ := mem_ready.1 hi
      rw [ho] at hoo; cases hoo
    | some o =>
      obtain ⟨hF, hD⟩ := H.2 i hi o ho
      cases hc : c i with
      | some v =>
        obtain ⟨hk, hn⟩ := hF v hc
        have next : ∀ w', T h w' → wpAny P md ops Q' fuel (listed.setIfInBounds i true) (a.put o.dst v) w' := fun w' hS' => wpAny_of_D hQ fuel _ _ h w' hS' hn
        rcases hk with ⟨hw, hk⟩ | ⟨hw, rfl⟩
        · simp only [hw, if_true]
          refine Or.inl ?_
          have h1 := hk h w (fun x w' => x = v ∧ T h w') hS (fun w' hS' => ⟨rfl, hS'⟩)
          unfold Oper.wp
          generalize (execOp a.eval o).run P w = r at h1
          cases r with
          | ok n w1 =>
            cases n <;> simp only [kUpon] at h1
            case value x => obtain ⟨rfl, h2⟩ := h1; exact next _ h2
            case skip => obtain ⟨rfl, h2⟩ := h1; exact next _ h2
            case enter f args =>
              show Calls P f args w1 _
              refine h1.mono fun e w2 he => ?_
              cases e with
              | returned x => obtain ⟨rfl, h2⟩ := he; exact next _ h2
              | panicked c => exact he.elim
              | outgrown => exact he.elim
          | halt x w1 => simp only [kUpon] at h1
        · simp only [hw, Bool.false_eq_true, if_false]
          exact next w hS
      | none =>
        obtain ⟨V, ⟨hw, _, hk⟩, hn⟩ := hD hc
        have next : ∀ v w', V v ∧ T (h ++ [v]) w' → wpAny P md ops Q' fuel (listed.setIfInBounds i true) (a.put o.dst v) w' := fun v w' hS' => wpAny_of_D hQ fuel _ _ (h ++ [v]) w' hS'.2 (hn v hS'.1)
        simp only [hw, if_true]
        refine Or.inl ?_
        have h1 := hk w (fun x w' => V x ∧ T (h ++ [x]) w') hS (fun v w' hv hS' => ⟨hv, hS'⟩)
        unfold Oper.wp
        generalize (execOp a.eval o).run P w = r at h1
        cases r with
        | ok n w1 =>
          cases n <;> simp only [kUpon] at h1
          case value x => exact next _ _ h1
          case skip => exact next _ _ h1
          case enter f args =>
            show Calls P f args w1 _
            refine h1.mono fun e w2 he => ?_
            cases e with
            | returned x => exact next _ _ he
            | panicked c => exact he.elim
            | outgrown => exact he.elim
        | halt x w1 => simp only [kUpon] at h1
/-- Whether an operation waits for another one, by however many others. -/
def waits (md : Region.Mode) (ops : Array Oper) (i : Nat) : Nat → Nat → Bool
  | 0, _ => false
  | f + 1, j => match ops[j]? with
    | none => false
    | some o => o.after.any fun e => Region.binds md e && (e.on == i || waits md ops i f e.on)
/-- What is done has all done that it waits for. -/
def Closed (md : Region.Mode) (ops : Array Oper) (listed : Array Bool) : Prop :=
  ∀ k o, listed.getD k false = true → ops[k]? = some o → ∀ e ∈ o.after, Region.binds md e = true → listed.getD e.on false = true
theorem getD_both {listed : Array Bool} {i : Nat} (h : listed.getD i true = false) : listed.getD i false = false := by
  rcases Nat.lt_or_ge i listed.size with h' | h'
  · simpa [h'] using h
  · simp [Array.getElem?_eq_none h'] at h
theorem Closed.set {listed : Array Bool} {j : Nat} (hc : Closed md ops listed) (hj : j ∈ Region.ready md ops listed) : Closed md ops (listed.setIfInBounds j true) := by
  obtain ⟨hjun, oj, hoj, hall⟩ := mem_ready.1 hj
  have mono : ∀ x, listed.getD x false = true → (listed.setIfInBounds j true).getD x false = true := by
    intro x hx
    by_cases hxj : j = x
    · subst hxj
      rw [getD_both hjun] at hx; cases hx
    · rw [getD_set_ne false hxj]; exact hx
  intro k o hk ho e he hb
  by_cases hkj : j = k
  · subst hkj
    obtain rfl := Option.some.inj (hoj.symm.trans ho)
    exact mono _ (hall e he hb)
  · rw [getD_set_ne false hkj] at hk
    exact mono _ (hc k o hk ho e he hb)
theorem waits_not {listed : Array Bool} {i : Nat} (hc : Closed md ops listed) (hi : listed.getD i true = false) : ∀ f j o, ops[j]? = some o → waits md ops i f j = true → ¬ (∀ e ∈ o.after, Region.binds md e = true → listed.getD e.on false = true)
  | 0, j, o, ho, hw, _ => by simp [waits] at hw
  | f + 1, j, o, ho, hw, hall => by
    simp only [waits, ho, Array.any_eq_true', Bool.and_eq_true, Bool.or_eq_true, beq_iff_eq] at hw
    obtain ⟨e, he, hb, h⟩ := hw
    have hl := hall e he hb
    rcases h with h | h
    · rw [h, getD_both hi] at hl; cases hl
    · cases hoe : ops[e.on]? with
      | none =>
        cases f with
        | zero => simp [waits] at h
        | succ f => simp [waits, hoe] at h
      | some oe => exact waits_not hc hi f e.on oe hoe h (fun e' he' hb' => hc e.on oe hl hoe e' he' hb')
section
variable {c : Nat → Option Value} {Q : Act → List Value → Prop} {i : Nat} {oi : Oper}
theorem firstF {v : Value} (hi : ops[i]? = some oi) (hci : c i = some v) (hsel : ∀ (j : Nat) (o : Oper) cs b, ops[j]? = some o → o.op ≠ .select cs b) :
    ∀ (fuel : Nat) (listed : Array Bool) (a : Act) (h : List Value),
      (∀ j oj, ops[j]? = some oj → j ≠ i → listed.getD j true = false → (∀ e ∈ oj.after, Region.binds md e = true → e.on ≠ i) → oi.apart ops oj = true) →
      i ∈ Region.ready md ops listed → KeepsF P ops T oi v a →
      wpAnyD P md ops T c Q fuel (listed.setIfInBounds i true) (a.put oi.dst v) h → wpAnyD P md ops T c Q (fuel + 1) listed a h := by
  intro fuel
  induction fuel with
  | zero =>
    intro listed a h _ hr hy H
    refine ⟨fun h => (by rw [h] at hr; cases hr), fun j hj oj hoj => ?_⟩
    by_cases hji : j = i
    · subst hji
      obtain rfl := Option.some.inj (hi.symm.trans hoj)
      refine ⟨fun u hu => ?_, fun hn => by rw [hci] at hn; cases hn⟩
      obtain rfl := Option.some.inj (hci.symm.trans hu)
      exact ⟨hy, H⟩
    · have := ready_mono hj hji
      rw [H.1] at this
      cases this
  | succ fuel ih =>
    intro listed a h hfree hr hy H
    refine ⟨fun h => (by rw [h] at hr; cases hr), fun j hj oj hoj => ?_⟩
    by_cases hji : j = i
    · subst hji
      obtain rfl := Option.some.inj (hi.symm.trans hoj)
      refine ⟨fun u hu => ?_, fun hn => by rw [hci] at hn; cases hn⟩
      obtain rfl := Option.some.inj (hci.symm.trans hu)
      exact ⟨hy, H⟩
    · obtain ⟨hF, hD⟩ := H.2 j (ready_mono hj hji) oj hoj
      obtain ⟨hjun, oj', hoj', hall⟩ := mem_ready.1 hj
      obtain rfl := Option.some.inj (hoj.symm.trans hoj')
      have hnot : ∀ e ∈ oj.after, Region.binds md e = true → e.on ≠ i := fun e he hb heq => by
        have h1 := hall e he hb
        rw [heq, getD_both (mem_ready.1 hr).1] at h1
        cases h1
      have hap := hfree j oj hoj hji hjun hnot
      obtain ⟨a1, a2, a3⟩ := Oper.apart_spec hap
      have hsi := fun cs b => hsel i oi cs b hi
      have hsj := fun cs b => hsel j oj cs b hoj
      have hfree' : ∀ k ok, ops[k]? = some ok → k ≠ i → (listed.setIfInBounds j true).getD k true = false →
          (∀ e ∈ ok.after, Region.binds md e = true → e.on ≠ i) → oi.apart ops ok = true := fun k ok hk hki hun hno => by
        refine hfree k ok hk hki ?_ hno
        by_cases hjk : j = k
        · subst hjk; exact hjun
        · rw [getD_set_ne true hjk] at hun; exact hun
      refine ⟨fun u hu => ?_, fun hn => ?_⟩
      · obtain ⟨hk, hnx⟩ := hF u hu
        refine ⟨hk.of_same (execOp_put oj hsj a oi.dst v a1).symm (wanted_put oj a oi.dst v a1).symm, ?_⟩
        refine ih (listed.setIfInBounds j true) (a.put oj.dst u) h hfree' (ready_mono hr (Ne.symm hji)) (hy.of_same (execOp_put oi hsi a oj.dst u a3) (wanted_put oi a oj.dst u a3)) ?_
        rw [Array.setIfInBounds_comm _ _ hji, ← Act.put_comm a v u a2]
        exact hnx
      · obtain ⟨V, hk, hnx⟩ := hD hn
        refine ⟨V, hk.of_same (execOp_put oj hsj a oi.dst v a1).symm (wanted_put oj a oi.dst v a1).symm, fun u hu => ?_⟩
        refine ih (listed.setIfInBounds j true) (a.put oj.dst u) (h ++ [u]) hfree' (ready_mono hr (Ne.symm hji)) (hy.of_same (execOp_put oi hsi a oj.dst u a3) (wanted_put oi a oj.dst u a3)) ?_
        rw [Array.setIfInBounds_comm _ _ hji, ← Act.put_comm a v u a2]
        exact hnx u hu
theorem firstD {V : Value → Prop} (hi : ops[i]? = some oi) (hci : c i = none) (hsel : ∀ (j : Nat) (o : Oper) cs b, ops[j]? = some o → o.op ≠ .select cs b) :
    ∀ (fuel : Nat) (listed : Array Bool) (a : Act) (h : List Value), Closed md ops listed →
      (∀ j, c j = none → j ≠ i → listed.getD j true = false → ∃ f, waits md ops i f j = true) →
      (∀ j oj, ops[j]? = some oj → j ≠ i → listed.getD j true = false → (∀ e ∈ oj.after, Region.binds md e = true → e.on ≠ i) → oi.apart ops oj = true) →
      i ∈ Region.ready md ops listed → KeepsD P ops T h V oi a →
      (∀ v, V v → wpAnyD P md ops T c Q fuel (listed.setIfInBounds i true) (a.put oi.dst v) (h ++ [v])) → wpAnyD P md ops T c Q (fuel + 1) listed a h := by
  intro fuel
  induction fuel with
  | zero =>
    intro listed a h _ _ _ hr hy H
    refine ⟨fun h => (by rw [h] at hr; cases hr), fun j hj oj hoj => ?_⟩
    by_cases hji : j = i
    · subst hji
      obtain rfl := Option.some.inj (hi.symm.trans hoj)
      exact ⟨fun u hu => absurd (hci.symm.trans hu) (fun e => by cases e), fun _ => ⟨V, hy, H⟩⟩
    · have := ready_mono hj hji
      obtain ⟨v0, hv0⟩ := hy.2.1
      rw [(H v0 hv0).1] at this
      cases this
  | succ fuel ih =>
    intro listed a h hcl hch hfree hr hy H
    refine ⟨fun h => (by rw [h] at hr; cases hr), fun j hj oj hoj => ?_⟩
    by_cases hji : j = i
    · subst hji
      obtain rfl := Option.some.inj (hi.symm.trans hoj)
      exact ⟨fun u hu => absurd (hci.symm.trans hu) (fun e => by cases e), fun _ => ⟨V, hy, H⟩⟩
    · obtain ⟨hjun, oj', hoj', hall⟩ := mem_ready.1 hj
      obtain rfl := Option.some.inj (hoj.symm.trans hoj')
      have hiun := (mem_ready.1 hr).1
      have hnot : ∀ e ∈ oj.after, Region.binds md e = true → e.on ≠ i := fun e he hb heq => by
        have h1 := hall e he hb
        rw [heq, getD_both hiun] at h1
        cases h1
      have hap := hfree j oj hoj hji hjun hnot
      obtain ⟨a1, a2, a3⟩ := Oper.apart_spec hap
      have hsi := fun cs b => hsel i oi cs b hi
      have hsj := fun cs b => hsel j oj cs b hoj
      have keepun : ∀ k, (listed.setIfInBounds j true).getD k true = false → listed.getD k true = false := fun k hun => by
        by_cases hjk : j = k
        · subst hjk; exact hjun
        · rw [getD_set_ne true hjk] at hun; exact hun
      have hfree' : ∀ k ok, ops[k]? = some ok → k ≠ i → (listed.setIfInBounds j true).getD k true = false →
          (∀ e ∈ ok.after, Region.binds md e = true → e.on ≠ i) → oi.apart ops ok = true := fun k ok hk hki hun hno => hfree k ok hk hki (keepun k hun) hno
      refine ⟨fun u hu => ?_, fun hn => ?_⟩
      · have hall2 := fun v hv => ((H v hv).2 j (ready_mono hj hji) oj hoj).1 u hu
        obtain ⟨v0, hv0⟩ := hy.2.1
        refine ⟨(hall2 v0 hv0).1.of_same (execOp_put oj hsj a oi.dst v0 a1).symm (wanted_put oj a oi.dst v0 a1).symm, ?_⟩
        refine ih (listed.setIfInBounds j true) (a.put oj.dst u) h (hcl.set hj) (fun k hk hki hun => hch k hk hki (keepun k hun)) hfree' (ready_mono hr (Ne.symm hji)) (hy.of_same (execOp_put oi hsi a oj.dst u a3) (wanted_put oi a oj.dst u a3)) (fun v hv => ?_)
        rw [Array.setIfInBounds_comm _ _ hji, ← Act.put_comm a v u a2]
        exact (hall2 v hv).2
      · obtain ⟨f, hw⟩ := hch j hn hji hjun
        exact absurd hall (waits_not hcl hiun f j oj hoj hw)
end
/-- The walk in the order of the text: 'some v' where the operation yields v, 'none' where what it yields hangs on the world. -/
def wpLexD (P : Program) (ops : Array Oper) (T : List Value → World → Prop) (Q : Act → List Value → Prop) : List Oper → List (Option Value) → Act → List Value → Prop
  | [], _, a, h => Q a h
  | o :: l, some v :: cs, a, h => KeepsF P ops T o v a ∧ wpLexD P ops T Q l cs (a.put o.dst v) h
  | o :: l, none :: cs, a, h => ∃ V : Value → Prop, KeepsD P ops T h V o a ∧ ∀ v, V v → wpLexD P ops T Q l cs (a.put o.dst v) (h ++ [v])
  | _ :: _, [], _, _ => False
/-- Those whose values hang on the world wait for one another. -/
def chainD (md : Region.Mode) (ops : Array Oper) (ds : List Nat) : Bool :=
  ds.all fun i => ds.all fun j => decide (j ≤ i) || waits md ops i ops.size j
def nones : List (Option Value) → Nat → List Nat
  | [], _ => []
  | none :: l, k => k :: nones l (k + 1)
  | some _ :: l, k => nones l (k + 1)
theorem nones_mem : ∀ (l : List (Option Value)) (k j : Nat), l[j]? = some none → k + j ∈ nones l k
  | [], k, j, h => by simp at h
  | none :: l, k, 0, h => by simp [nones]
  | none :: l, k, j + 1, h => by
    have := nones_mem l (k + 1) j (by simpa using h)
    rw [nones]
    exact List.mem_cons_of_mem _ (by rwa [show k + (j + 1) = k + 1 + j by omega])
  | some _ :: l, k, 0, h => by simp at h
  | some _ :: l, k, j + 1, h => by
    have := nones_mem l (k + 1) j (by simpa using h)
    rw [nones]
    rwa [show k + (j + 1) = k + 1 + j by omega]
theorem lexD {c : Nat → Option Value} {Q : Act → List Value → Prop} (hs : Region.noSelect ops = true) (hch : ∀ i j, c i = none → c j = none → i < j → ∃ f, waits md ops i f j = true) :
    ∀ (l : List Oper) (cs : List (Option Value)) (k : Nat) (listed : Array Bool) (a : Act) (h : List Value), (∀ j, l[j]? = ops[k + j]?) → (∀ j x, cs[j]? = some x → c (k + j) = x) →
    Closed md ops listed → (∀ j, j < k → listed.getD j true = true) →
    Region.lexFrom md ops l.length k listed = true → wpLexD P ops T Q l cs a h → wpAnyD P md ops T c Q l.length listed a h
  | [], _, _, _, _, _, _, _, _, _, hB, H => ⟨by simpa [Region.lexFrom] using hB, by simpa [wpLexD] using H⟩
  | o :: l, [], _, _, _, _, _, _, _, _, _, H => by simp [wpLexD] at H
  | o :: l, x :: cs, k, listed, a, h, hl, hcs, hcl, hlt, hB, H => by
    have h0 : ops[k]? = some o := by simpa using (hl 0).symm
    have hck : c k = x := by simpa using hcs 0 x (by simp)
    simp only [List.length_cons, Region.lexFrom, Bool.and_eq_true] at hB
    obtain ⟨⟨hr, hf⟩, hB'⟩ := hB
    have hr' : k ∈ Region.ready md ops listed := by simpa using hr
    have hl' : ∀ j, l[j]? = ops[k + 1 + j]? := fun j => by have := hl (j + 1); simpa [Nat.add_assoc, Nat.add_comm 1 j] using this
    have hcs' : ∀ j y, cs[j]? = some y → c (k + 1 + j) = y := fun j y hy => by
      have := hcs (j + 1) y (by simpa using hy)
      rwa [show k + 1 + j = k + (j + 1) by omega]
    have hlt' : ∀ j, j < k + 1 → (listed.setIfInBounds k true).getD j true = true := fun j hj => by
      by_cases e : k = j
      · subst e
        rcases Nat.lt_or_ge k listed.size with h' | h'
        · simp [h']
        · simp [h']
      · rw [getD_set_ne true e]; exact hlt j (by omega)
    cases x with
    | some v =>
      obtain ⟨hy, hK⟩ := H
      exact firstF h0 hck (Region.noSelect_spec hs) l.length listed a h (Region.free_spec h0 hf) hr' hy (lexD hs hch l cs (k + 1) _ _ h hl' hcs' (hcl.set hr') hlt' hB' hK)
    | none =>
      obtain ⟨V, hy, hK⟩ := H
      refine firstD h0 hck (Region.noSelect_spec hs) l.length listed a h hcl (fun j hj hjk hun => ?_) (Region.free_spec h0 hf) hr' hy (fun v hv => lexD hs hch l cs (k + 1) _ _ (h ++ [v]) hl' hcs' (hcl.set hr') hlt' hB' (hK v hv))
      refine hch k j hck hj ?_
      rcases Nat.lt_or_ge k j with h1 | h1
      · exact h1
      · have := hlt j (by omega)
        rw [hun] at this; cases this
/-- The region. -/
theorem wp_region_d {id : Nat} {Q : Exit → Act → World → Prop} {a : Act} {w : World} {l : List Oper} (T : List Value → World → Prop) (cs : List (Option Value)) (hm : P.follows .mixedOrders = true) (hB : Region.lexB .any l.toArray = true) (ds : List Nat) (hds : nones cs 0 = ds) (hD : chainD .any l.toArray ds = true) (hS : T [] w.drew)
    (h : wpLexD P l.toArray T (fun a' h' => ∀ w', T h' w' → Q .normal a' w') l cs a []) : (Code.region id l.toArray true).wp P Q a w := by
  simp only [Region.lexB, Bool.and_eq_true] at hB
  refine wp_region_any hm (wpAny_of_D (T := T) (c := fun k => (cs[k]?).getD (some undef)) (Q := fun a' h' => ∀ w', T h' w' → Q .normal a' w') (fun _ _ h => h) _ _ _ [] _ hS ?_)
  have hch : ∀ i j, (cs[i]?).getD (some undef) = none → (cs[j]?).getD (some undef) = none → i < j → ∃ f, waits .any l.toArray i f j = true := by
    intro i j hi hj hij
    have mem : ∀ k, (cs[k]?).getD (some undef) = none → k ∈ ds := fun k hk => by
      rw [← hds]
      cases hx : cs[k]? with
      | none => rw [hx] at hk; cases hk
      | some x =>
        rw [hx] at hk
        have := nones_mem cs 0 k (by rw [hx]; exact congrArg some hk)
        rwa [Nat.zero_add] at this
    unfold chainD at hD
    have h1 := List.all_eq_true.1 (List.all_eq_true.1 hD i (mem i hi)) j (mem j hj)
    simp only [Bool.or_eq_true, decide_eq_true_eq] at h1
    rcases h1 with h1 | h1
    · omega
    · exact ⟨_, h1⟩
  have := lexD (md := .any) (T := T) hB.1 hch l cs 0 (Array.replicate l.toArray.size false) a [] (by simp) (fun j x hx => by simp [hx]) (fun k o hk => by simp [Array.getElem?_replicate] at hk; split at hk <;> simp at hk) (fun j hj => by omega) (by simpa using hB.2) h
  simpa using this
theorem lexF_step {Q : Act → List Value → Prop} {o : Oper} {l : List Oper} {v : Value} {cs : List (Option Value)} {a : Act} {h : List Value} (hw : Region.wanted o (yielded ops a.tmps) = true)
    (hk : ∀ (h : List Value) (w : World) (K : Value → World → Prop), T h w → (∀ w', T h w' → K v w') → kUpon P K ((execOp a.eval o).run P w)) (hn : wpLexD P ops T Q l cs (a.put o.dst v) h) : wpLexD P ops T Q (o :: l) (some v :: cs) a h := ⟨.inl ⟨hw, hk⟩, hn⟩
theorem lexF_not {Q : Act → List Value → Prop} {o : Oper} {l : List Oper} {cs : List (Option Value)} {a : Act} {h : List Value} (hw : Region.wanted o (yielded ops a.tmps) = false) (hn : wpLexD P ops T Q l cs (a.put o.dst undef) h) : wpLexD P ops T Q (o :: l) (some undef :: cs) a h := ⟨.inr ⟨hw, rfl⟩, hn⟩
theorem lexD_step {Q : Act → List Value → Prop} {o : Oper} {l : List Oper} {cs : List (Option Value)} {a : Act} {h : List Value} (hw : Region.wanted o (yielded ops a.tmps) = true)
    (hk : ∀ (w : World) (K : Value → World → Prop), T h w → (∀ v w', T (h ++ [v]) w' → K v w') → kUpon P K ((execOp a.eval o).run P w)) (hn : ∀ v, wpLexD P ops T Q l cs (a.put o.dst v) (h ++ [v])) : wpLexD P ops T Q (o :: l) (none :: cs) a h := ⟨fun _ => True, ⟨hw, ⟨undef, trivial⟩, fun w K hT hK => hk w K hT (fun v w' => hK v w' trivial)⟩, fun v _ => hn v⟩
/-- One whose value is v, at this stage alone. -/
theorem lexE_step {Q : Act → List Value → Prop} {o : Oper} {l : List Oper} {v : Value} {cs : List (Option Value)} {a : Act} {h : List Value} (hw : Region.wanted o (yielded ops a.tmps) = true)
    (hk : ∀ (w : World) (K : Value → World → Prop), T h w → (∀ w', T (h ++ [v]) w' → K v w') → kUpon P K ((execOp a.eval o).run P w)) (hn : wpLexD P ops T Q l cs (a.put o.dst v) (h ++ [v])) : wpLexD P ops T Q (o :: l) (none :: cs) a h :=
  ⟨fun x => x = v, ⟨hw, ⟨v, rfl⟩, fun w K hT hK => hk w K hT (fun w' => hK v w' rfl)⟩, fun x hx => by subst hx; exact hn⟩
theorem lexD_nil {Q : Act → List Value → Prop} {cs : List (Option Value)} {a : Act} {h : List Value} (hq : Q a h) : wpLexD P ops T Q [] cs a h := by simpa [wpLexD] using hq
end
end Go.Proofs.YtpaijhmbfljfmaaDoor.Rm
/- CodeBack's walk. -/
namespace Go.Proofs.YtpaijhmbfljfmaaDoor.CodeBackW
set_option linter.unusedVariables false
set_option linter.unusedSimpArgs false
set_option maxRecDepth 100000
open Go.ChangeShapes Go.WideShapes Go.ChangeAt Go.RowKit
open Go.Proofs.YtpaijhmbfljfmaaDoor.Wu Go.Proofs.YtpaijhmbfljfmaaDoor.Sm Go.Proofs.YtpaijhmbfljfmaaDoor.Sh Go.Proofs.YtpaijhmbfljfmaaDoor.Ba Go.Proofs.YtpaijhmbfljfmaaDoor.Bp Go.Proofs.YtpaijhmbfljfmaaDoor.Bq Go.Proofs.YtpaijhmbfljfmaaDoor.Bs Go.Proofs.YtpaijhmbfljfmaaDoor.Cm Go.Proofs.YtpaijhmbfljfmaaDoor.Cn Go.Proofs.YtpaijhmbfljfmaaDoor.Cy Go.Proofs.YtpaijhmbfljfmaaDoor.Cr Go.Proofs.YtpaijhmbfljfmaaDoor.Cl Go.Proofs.YtpaijhmbfljfmaaDoor.Er Go.Proofs.YtpaijhmbfljfmaaDoor.Eu Go.Proofs.YtpaijhmbfljfmaaDoor.Cv Go.Proofs.YtpaijhmbfljfmaaDoor.Cw Go.Proofs.YtpaijhmbfljfmaaDoor.Cx Go.Proofs.YtpaijhmbfljfmaaDoor.Cz Go.Proofs.YtpaijhmbfljfmaaDoor.Ik Go.Proofs.YtpaijhmbfljfmaaDoor.Il Go.Proofs.YtpaijhmbfljfmaaDoor.Im Go.Proofs.YtpaijhmbfljfmaaDoor.Rm
def Post (w : World) (e : Ending) (w' : World) : Prop := e = .returned (.bool true) ∧ Below w.heap.size w w'
/-- The first t numbers' bytes. -/
def nums (zs : List Int) : Nat → List Nat
  | 0 => []
  | t + 1 => nums zs t ++ numL (cl (zs.getD t 0))
theorem cl_max (z : Int) : cl z ≤ 1099511627776 := by
  unfold cl
  split
  · omega
  · split <;> omega
theorem nums_len (zs : List Int) (t : Nat) : (nums zs t).length ≤ 6 * t := by
  induction t with
  | zero => simp [nums]
  | succ t ih =>
    have := numL_six (cl (zs.getD t 0)) (cl_max _)
    unfold nums
    rw [List.length_append]
    omega
/-- The bytes of all are those of the first, and more. -/
theorem nums_pre (zs : List Int) (n t : Nat) (h : t ≤ n) : ∃ R, nums zs n = nums zs t ++ R := by
  induction n with
  | zero => obtain rfl : t = 0 := by omega
            exact ⟨[], by simp⟩
  | succ n ih =>
    by_cases ht : t ≤ n
    · obtain ⟨R, hR⟩ := ih ht
      exact ⟨R ++ numL (cl (zs.getD n 0)), by rw [nums, hR, List.append_assoc]⟩
    · obtain rfl : t = n + 1 := by omega
      exact ⟨[], by simp⟩
theorem nums_at (zs : List Int) (n t : Nat) (h : t < n) (X : List Nat) : ∃ R, nums zs n ++ X = nums zs t ++ (numL (cl (zs.getD t 0)) ++ R) := by
  obtain ⟨R, hR⟩ := nums_pre zs n (t + 1) h
  exact ⟨R ++ X, by rw [hR, nums]; simp⟩
theorem numP_cut : ∀ (n j i acc : Nat), j < (numL n).length → i + (numL n).length ≤ 6 → numP ((numL n).take j) i acc = .bad 30 := by
  intro n
  induction n using Nat.strongRecOn with
  | _ n ih =>
    intro j i acc hj hl
    cases j with
    | zero => rw [List.take_zero]; rfl
    | succ j =>
      by_cases h : n < 128
      · rw [numL_small n h] at hj
        simp at hj
      · rw [numL_big n h] at hj hl ⊢
        simp only [List.length_cons] at hj hl
        rw [List.take_succ_cons]
        unfold numP
        have hp := numL_pos (n / 128)
        rw [if_neg (by omega), if_pos (by omega)]
        exact ih (n / 128) (by omega) j (i + 1) _ (by omega) (by omega)
/-- A number of which not all is there. -/
theorem num_cut (A R : List Nat) (i n k : Nat) (hA : A.length = i) (hn : n ≤ 1099511627776) (hik : i ≤ k) (hk : k ≤ (A ++ (numL n ++ R)).length) :
    (i + (numL n).length ≤ k ∧ (Rs.mk i 0 0).num ((A ++ (numL n ++ R)).take k) = ⟨i + (numL n).length, 0, 0⟩ ∧ (Rs.mk i 0 0).numV ((A ++ (numL n ++ R)).take k) = n) ∨
      ((Rs.mk i 0 0).num ((A ++ (numL n ++ R)).take k) = ⟨i, (k : Int), 30⟩ ∧ (Rs.mk i 0 0).numV ((A ++ (numL n ++ R)).take k) = 0) := by
  have hlen : ((A ++ (numL n ++ R)).take k).length = k := by rw [List.length_take]; omega
  by_cases h : i + (numL n).length ≤ k
  · left
    have e : (A ++ (numL n ++ R)).take k = A ++ (numL n ++ R.take (k - i - (numL n).length)) := by
      rw [List.take_append, List.take_of_length_le (by omega), List.take_append, List.take_of_length_le (by omega), hA]
    rw [e]
    exact ⟨h, num_back A [] _ i n 0 hA hn⟩
  · right
    have e : ((A ++ (numL n ++ R)).take k).drop i = (numL n).take (k - i) := by
      rw [List.drop_take, ← hA, List.drop_left, List.take_append, show k - A.length - (numL n).length = 0 by omega]
      simp
    have hp := numP_cut n (k - i) 0 0 (by omega) (by have := numL_six n hn; omega)
    unfold Rs.num Rs.numV
    simp only [e, hp, hlen, if_true]
    exact ⟨rfl, trivial⟩
theorem text_cut (A S : List Nat) (i l k : Nat) (hA : A.length = i) (hS : S.length = l) (hl : l ≤ 4096) (hik : i ≤ k) (hk : k < i + ((numL l).length + l)) :
    (Rs.mk i 0 0).text ((A ++ (numL l ++ S)).take k) = ⟨i, (k : Int), 30⟩ := by
  have hkl : k ≤ (A ++ (numL l ++ S)).length := by simp only [List.length_append]; omega
  have hlen : ((A ++ (numL l ++ S)).take k).length = k := by rw [List.length_take]; omega
  rcases num_cut A S i l k hA (by omega) hik hkl with ⟨h0, h1, h2⟩ | ⟨h1, h2⟩
  · have h3 : (Rs.mk i 0 0).pre ((A ++ (numL l ++ S)).take k) = ⟨i + (numL l).length, (k : Int), 30⟩ := by
      unfold Rs.pre Rs.mid
      rw [h1, h2, if_neg (by omega), hlen]
      unfold Rs.has
      rw [if_pos ⟨rfl, by show k < i + (numL l).length + l; omega⟩]
    unfold Rs.text
    rw [h3]
    simp
  · have h3 : (Rs.mk i 0 0).pre ((A ++ (numL l ++ S)).take k) = ⟨i, (k : Int), 30⟩ := by
      unfold Rs.pre Rs.mid
      rw [h1, h2, if_neg (by omega)]
      exact Rs.has_stuck _ _ _ (by show ¬ (30 : Int) = 0; decide)
    unfold Rs.text
    rw [h3]
    simp
/-- The reader of what is cut, behind t numbers. -/
def Ok (zs : List Int) (k t : Nat) (s : Rs) : Prop := s.at_ ≤ k ∧ (s = ⟨(nums zs t).length, 0, 0⟩ ∨ s.fa = (k : Int) ∧ s.fe = 30)
theorem Ok.num {zs : List Int} {k t n : Nat} {s : Rs} {L X : List Nat} (h : Ok zs k t s) (ht : t < n) (hL : L = nums zs n ++ X) (hk : k ≤ L.length) : Ok zs k (t + 1) (s.num (L.take k)) := by
  obtain ⟨h0, h1⟩ := h
  rcases h1 with rfl | ⟨h1, h2⟩
  · obtain ⟨R, hR⟩ := nums_at zs n t ht X
    rw [hR] at hL
    subst hL
    rcases num_cut (nums zs t) R _ (cl (zs.getD t 0)) k rfl (cl_max _) h0 hk with ⟨h3, h4, _⟩ | ⟨h4, _⟩
    · rw [h4]
      exact ⟨h3, .inl (by rw [nums, List.length_append])⟩
    · rw [h4]
      exact ⟨h0, .inr ⟨rfl, rfl⟩⟩
  · rw [(Rs.num_stuck s _ (by rw [h2]; decide)).1]
    exact ⟨h0, .inr ⟨h1, h2⟩⟩
theorem Ok.text {zs : List Int} {k n l : Nat} {s : Rs} {L S : List Nat} (h : Ok zs k n s) (hS : S.length = l) (hl : l ≤ 4096) (hL : L = nums zs n ++ (numL l ++ S)) (hk : k < (nums zs n).length + ((numL l).length + l)) : (s.text (L.take k)).fa = (k : Int) ∧ (s.text (L.take k)).fe = 30 := by
  obtain ⟨h0, h1⟩ := h
  rcases h1 with rfl | ⟨h1, h2⟩
  · rw [hL, text_cut (nums zs n) S _ l k rfl hS hl h0 hk]
    exact ⟨rfl, rfl⟩
  · rw [(Rs.text_stuck s _ (by rw [h2]; decide)).1]
    exact ⟨h1, h2⟩
/-- Where the walk through the comparison is: before Text, behind it, behind its text, behind End and At. -/
def T (w : World) (g : Nat) (a : Option Addr) (m c : Nat) (L F : List Nat) (s0 s1 : Rs) (h : List Value) (u : World) : Prop :=
  match h with
  | [] => RV w u g a m c L s0
  | [v] => RV w u g a m c L s1 ∧ ∃ b n k, v = .slice b n k ∧ SrcB u b n F
  | _ => RV w u g a m c L s1
theorem T.below {w u : World} {g : Nat} {a : Option Addr} {m c : Nat} {L F : List Nat} {s0 s1 : Rs} {h : List Value} (t : T w g a m c L F s0 s1 h u) : Below w.heap.size w u := by
  unfold T at t
  split at t
  · exact RV.below t
  · exact RV.below t.1
  · exact RV.below t
theorem text_buf (v : Value) (N : Nat) (L : List Nat) (l sc : Nat) (sa : Option Addr) (S : List Nat) (w : World) (hb : Buf w v N L) (hN : N ≤ w.heap.size) (hL : L.length ≤ 1000000) (hs : SrcB w sa l S) (hsc : l ≤ sc) (hscm : sc ≤ 9223372036854775807) (hl : l ≤ 4096) (hn : sa = none → l = 0) :
    Calls Tryd.prog 47 #[v, .slice sa l sc] w fun e w' => ∃ g n cap, e = .returned (.slice (some ⟨g, 0, none⟩) n cap) ∧ N ≤ g ∧ Dst w' g n cap (L ++ (numL l ++ S)) ∧ Below N w w' := by
  have hSl := hs.1
  rcases hb with ⟨rfl, rfl⟩ | ⟨g, cap, rfl, hg, hd⟩
  · refine (text_nil l sc sa S w hs hsc hscm hl hn).mono ?_
    rintro e w' ⟨g, n, cap, rfl, h1, h2, h3⟩
    rw [hSl] at h2
    exact ⟨g, n, cap, rfl, by omega, by simpa using h2, ⟨h3.os, h3.tape, h3.output, by have := h3.size; omega, fun k hk => h3.block k (by omega)⟩⟩
  · refine (text_any g L.length cap l sc sa L S w hd hs hsc hscm hL hn).mono ?_
    rintro e w' ⟨g', cap', n, rfl, h1, h2, h3, _⟩
    have e1 : S.take 4096 = S := List.take_of_length_le (by omega)
    rw [e1, hSl, List.append_assoc] at h1
    refine ⟨g', n, cap', rfl, ?_, h1, belowG (Below.refl N w) h2 hg hN⟩
    rcases h3 with rfl | h
    · exact hg
    · omega
end Go.Proofs.YtpaijhmbfljfmaaDoor.CodeBackW
/- WholeFramed's walk. -/

namespace Go.Proofs.YtpaijhmbfljfmaaDoor.WholeFramedW
set_option linter.unusedVariables false
set_option linter.unusedSimpArgs false
set_option maxRecDepth 100000
open Go.ChangeShapes Go.WideShapes Go.ChangeAt Go.RowKit
open Go.Proofs.YtpaijhmbfljfmaaDoor.Wu Go.Proofs.YtpaijhmbfljfmaaDoor.Sm Go.Proofs.YtpaijhmbfljfmaaDoor.Sk Go.Proofs.YtpaijhmbfljfmaaDoor.Sc Go.Proofs.YtpaijhmbfljfmaaDoor.Sxa Go.Proofs.YtpaijhmbfljfmaaDoor.Sh Go.Proofs.YtpaijhmbfljfmaaDoor.Sn Go.Proofs.YtpaijhmbfljfmaaDoor.Sw0 Go.Proofs.YtpaijhmbfljfmaaDoor.Sx Go.Proofs.YtpaijhmbfljfmaaDoor.Sw Go.Proofs.YtpaijhmbfljfmaaDoor.Sb Go.Proofs.YtpaijhmbfljfmaaDoor.Sf Go.Proofs.YtpaijhmbfljfmaaDoor.So Go.Proofs.YtpaijhmbfljfmaaDoor.Su Go.Proofs.YtpaijhmbfljfmaaDoor.St Go.Proofs.YtpaijhmbfljfmaaDoor.Sg Go.Proofs.YtpaijhmbfljfmaaDoor.Sv Go.Proofs.YtpaijhmbfljfmaaDoor.Rg
def Post (w : World) (e : Ending) (w' : World) : Prop := e = .returned (.bool true) ∧ Below w.heap.size w w'
/-- The digits of abc's sum. -/
theorem abc_digits : ∃ T : ByteArray, strN (textL (sha [97, 98, 99])) = T ∧ T.size = 64 ∧ (T.extract 0 8).toList = [98, 97, 55, 56, 49, 54, 98, 102] := by
  rw [text_abc]
  exact ⟨_, rfl, by kernel_rfl, by kernel_rfl⟩
theorem abc_of (w : World) (hT : Tbl w) (hF : Fst w) : Calls Tryd.prog 17 #[.slice (some ⟨w.heap.size + 1, 0, none⟩) 1 1] ((w.alloc (.cells #[.int .u8 97, .int .u8 98, .int .u8 99] 5 (3, 4))).alloc (.cells #[.slice (some ⟨w.heap.size, 0, none⟩) 3 3] 31)) fun e w' => e = .returned (.agg (u8s (sha [97, 98, 99]))) ∧ Below w.heap.size w w' := by
  have H2 := heap_2a w (.cells #[.int .u8 97, .int .u8 98, .int .u8 99] 5 (3, 4)) (.cells #[.slice (some ⟨w.heap.size, 0, none⟩) 3 3] 31)
  have H4 := heap_2b w (.cells #[.int .u8 97, .int .u8 98, .int .u8 99] 5 (3, 4)) (.cells #[.slice (some ⟨w.heap.size, 0, none⟩) 3 3] 31)
  have HB := ((Below.refl w.heap.size w).alloc (Nat.le_refl _) (.cells #[.int .u8 97, .int .u8 98, .int .u8 99] 5 (3, 4))).alloc (by simp) (.cells #[.slice (some ⟨w.heap.size, 0, none⟩) 3 3] 31)
  generalize ((w.alloc (.cells #[.int .u8 97, .int .u8 98, .int .u8 99] 5 (3, 4))).alloc (.cells #[.slice (some ⟨w.heap.size, 0, none⟩) 3 3] 31)) = w1 at *
  have s1 : SrcB w1 (some ⟨w.heap.size, 0, none⟩) 3 [97, 98, 99] := by
    refine ⟨rfl, by intro z hz; simp only [List.mem_cons, List.not_mem_nil, or_false] at hz; omega, w.heap.size, 0, fun _ => rfl, fun i hi => ?_⟩
    match i, hi with
    | 0, _ => exact blk_cell H2 rfl
    | 1, _ => exact blk_cell H2 rfl
    | 2, _ => exact blk_cell H2 rfl
  have h := of_c (some ⟨w.heap.size + 1, 0, none⟩) 1 [⟨some ⟨w.heap.size, 0, none⟩, 3, 3, [97, 98, 99]⟩] w1 (parts_one s1 (Nat.le_refl _) H4) (tbl_keep hT HB (Nat.le_refl _)) (fst_keep hF HB (Nat.le_refl _)) (by simp [flat]) (by simp)
  rw [flat_one] at h
  exact h.mono fun e w' ⟨h1, h2⟩ => ⟨h1, keepB h2 (Nat.le_refl _) HB⟩
theorem weak_a (w : World) : Calls Tryd.prog 45 #[.slice (some ⟨w.heap.size, 0, none⟩) 1 1] (w.alloc (.cells #[.int .u8 97] 5 (1, 2))) fun e w' => e = .returned (.agg #[.int .i64 1, .int .u16 97, .int .u16 97]) ∧ Below w.heap.size w w' := by
  have H := heap_last w (.cells #[.int .u8 97] 5 (1, 2))
  have HB := (Below.refl w.heap.size w).alloc (Nat.le_refl _) (.cells #[.int .u8 97] 5 (1, 2))
  generalize w.alloc (.cells #[.int .u8 97] 5 (1, 2)) = w1 at *
  have h := Wc.of_row w.heap.size 0 1 1 [97] w1 rfl (by intro z hz; simp only [List.mem_cons, List.not_mem_nil, or_false] at hz; omega) (by omega) (heap_lt H) (fun i hi => by
    obtain rfl : i = 0 := by omega
    exact blk_cell H rfl)
  exact h.mono fun e w' ⟨h1, h2⟩ => ⟨h1, keepB h2 (Nat.le_refl _) HB⟩
theorem kUpon_append {P : Program} {a : Act} {o : Oper} {u u' : World} {K : Value → World → Prop} {v' : Value} (s x : Operand) (ho : o.op = .call { callee := .builtin .append, args := #[s, x], argTypes := #[31, 31] })
    (hrun : (Builtin.append_ #[31, 31] o.type #[a.eval s, a.eval x]).run P u = .ok v' u') (h : K v' u') : Rk.kUpon P K ((execOp a.eval o).run P u) := by
  have e : (execOp a.eval o).run P u = .ok (.value v') u' := by
    simp [execOp, ho, resolve, invoke, builtin, hrun, Result.andThen]
  rw [e]
  exact h
/-- The bytes as they grow. -/
def T7 (w8 : World) (A1 A2 A3 : List Nat) (h : List Value) (u : World) : Prop :=
  Below w8.heap.size w8 u ∧ match h with
    | [] => True
    | [v] => Bq.Buf u v w8.heap.size A1
    | [_, v] => Bq.Buf u v w8.heap.size A2
    | _ :: _ :: v :: _ => Bq.Buf u v w8.heap.size A3
theorem T7.b {w8 u : World} {A1 A2 A3 : List Nat} {h : List Value} (t : T7 w8 A1 A2 A3 h u) : Below w8.heap.size w8 u := And.left t
theorem T7.one {w8 u : World} {A1 A2 A3 : List Nat} {v : Value} (t : T7 w8 A1 A2 A3 [v] u) : Bq.Buf u v w8.heap.size A1 := And.right t
theorem T7.two {w8 u : World} {A1 A2 A3 : List Nat} {v1 v : Value} (t : T7 w8 A1 A2 A3 [v1, v] u) : Bq.Buf u v w8.heap.size A2 := And.right t
theorem T7.three {w8 u : World} {A1 A2 A3 : List Nat} {v1 v2 v : Value} (t : T7 w8 A1 A2 A3 [v1, v2, v] u) : Bq.Buf u v w8.heap.size A3 := And.right t
theorem T7.mk {w8 u : World} {A1 A2 A3 : List Nat} {v1 v2 v : Value} (hb : Below w8.heap.size w8 u) (h : Bq.Buf u v w8.heap.size A3) : T7 w8 A1 A2 A3 [v1, v2, v] u := And.intro hb h
/-- What was written is read as it was. -/
theorem backs (q l : Nat) (L X D : List Nat) (hD : D = Cm.numL q ++ (Cm.numL l ++ L) ++ X) (hq : q ≤ 1099511627776) (hL : L.length = l) (hl : l ≤ 4096) (hX : X.length = 32) :
    ∃ i j, (Cv.Rs.mk 0 0 0).num D = ⟨i, 0, 0⟩ ∧ (Cv.Rs.mk 0 0 0).numV D = q ∧ (Cv.Rs.mk i 0 0).text D = ⟨j, 0, 0⟩ ∧ (Cv.Rs.mk i 0 0).textV D = L ∧ (Cv.Rs.mk j 0 0).sum D = ⟨D.length, 0, 0⟩ ∧ (Cv.Rs.mk j 0 0).sumV D = X ∧ i ≤ D.length ∧ j ≤ D.length := by
  have e1 : D = [] ++ (Cm.numL q ++ ((Cm.numL l ++ L) ++ X)) := by rw [hD]; simp
  have e2 : D = Cm.numL q ++ (Cm.numL l ++ (L ++ X)) := by rw [hD]; simp
  have h1 := Im.num_back [] [] ((Cm.numL l ++ L) ++ X) 0 q 0 rfl hq
  rw [← e1] at h1
  have h2 := Im.text_back (Cm.numL q) L X (Cm.numL q).length l 0 rfl hL hl
  rw [← e2] at h2
  have hlen : D.length = (Cm.numL q).length + (Cm.numL l).length + l + 32 := by rw [hD]; simp only [List.length_append, hL, hX]; omega
  have hh : (Cv.Rs.mk ((Cm.numL q).length + (Cm.numL l).length + l) 0 0).has D.length 32 = ⟨(Cm.numL q).length + (Cm.numL l).length + l, 0, 0⟩ := by
    unfold Cv.Rs.has
    rw [if_neg]
    rintro ⟨_, h⟩
    have h : D.length < (Cm.numL q).length + (Cm.numL l).length + l + 32 := h
    omega
  refine ⟨(Cm.numL q).length, (Cm.numL q).length + (Cm.numL l).length + l, ?_, h1.2, h2.1, h2.2, ?_, ?_, by omega, by omega⟩
  · rw [h1.1, Nat.zero_add]
  · unfold Cv.Rs.sum
    rw [hh]
    simp only [if_true]
    rw [hlen]
  · unfold Cv.Rs.sumV
    rw [hh]
    simp only [if_true]
    have e3 : D = (Cm.numL q ++ (Cm.numL l ++ L)) ++ X := hD
    have e4 : (Cm.numL q ++ (Cm.numL l ++ L)).length = (Cm.numL q).length + (Cm.numL l).length + l := by simp only [List.length_append, hL]; omega
    rw [e3, ← e4, List.drop_left, List.take_of_length_le (by omega)]
theorem load_sum {u : World} {B : Nat} {X : List Nat} {T : TypeId} (h : u.heap[B]? = some (.cells (u8s X) T (0, 0))) (hX : X.length = 32) : Sem.run Tryd.prog (loadVar 27 ⟨B, 0, none⟩) u = .ok (.agg (u8s X)) u := by
  have h4 := run_loadVar_mid (P := Tryd.prog) u B 0 27 (u8s X).toList _ (range8_all h) Tryd.underlying27 rfl (by rw [infoS]; simp [u8s_size, hX])
  rw [Array.toArray_toList] at h4
  exact h4
theorem cut_whole (X : List Nat) (h : X.length = 32) : cutL 32 X = X := by
  unfold cutL
  rw [List.take_of_length_le (by omega)]
  simp [zeros]
/-- The memory in the comparison. -/
structure S16 (w : World) (g gR capR SB ZB gY : Nat) (D X L : List Nat) (u : World) : Prop where
  rv : Cz.RV w u g (some ⟨gR, 0, none⟩) D.length capR D ⟨D.length, 0, 0⟩
  sb : u.heap[SB]? = some (.cells (u8s X) 27 (0, 0))
  zb : u.heap[ZB]? = some (.cells (u8s X) 27 (0, 0))
  y : Ba.SrcB u (some ⟨gY, 0, none⟩) L.length L
theorem S16.up {w u u' : World} {g gR capR SB ZB gY : Nat} {D X L : List Nat} (h : S16 w g gR capR SB ZB gY D X L u) (hb : Below u.heap.size u u') : S16 w g gR capR SB ZB gY D X L u' :=
  ⟨h.rv.up hb, below_blk hb (heap_lt h.sb) h.sb, below_blk hb (heap_lt h.zb) h.zb, h.y.below hb⟩
theorem S16.step {w u u' : World} {g gR capR SB ZB gY : Nat} {D X L : List Nat} (h : S16 w g gR capR SB ZB gY D X L u) (hr : Cv.RdS u' g (some ⟨gR, 0, none⟩) D.length capR ⟨D.length, 0, 0⟩) (hg : u.grownBy u' (some g)) (h1 : SB ≠ g) (h2 : ZB ≠ g) (h3 : gY ≠ g) : S16 w g gR capR SB ZB gY D X L u' :=
  ⟨h.rv.step hr hg, keepG hg h1 h.sb, keepG hg h2 h.zb, Cw.src_kept h.y hg (fun ad e _ => by injection e with e; subst e; exact h3)⟩
theorem end_full {w u : World} {g gR capR SB ZB gY : Nat} {D X L : List Nat} (h : S16 w g gR capR SB ZB gY D X L u) (hm : D.length ≤ 3000) (h1 : SB ≠ g) (h2 : ZB ≠ g) (h3 : gY ≠ g) :
    Calls Tryd.prog 54 #[.pointer (some ⟨g, 0, none⟩)] u fun e u' => e = .returned .nilIface ∧ S16 w g gR capR SB ZB gY D X L u' := by
  have he := Cw.end_c g (some ⟨gR, 0, none⟩) D.length capR ⟨D.length, 0, 0⟩ u h.rv.rd (by omega)
  have hf : (Cv.Rs.mk D.length 0 0).fin D.length = ⟨D.length, 0, 0⟩ := by
    unfold Cv.Rs.fin
    rw [if_neg]
    rintro ⟨_, h⟩
    have h : D.length < D.length := h
    omega
  rw [hf] at he
  refine he.mono ?_
  rintro e u' ⟨v, rfl, hv, hr, hg⟩
  rcases hv with ⟨_, rfl⟩ | ⟨h0, _⟩
  · exact ⟨rfl, h.step hr hg h1 h2 h3⟩
  · exact absurd rfl h0
def T24 (w20 : World) (o : Array Value) (v : Array Value) (h : List Value) (u : World) : Prop :=
  Below w20.heap.size w20 u ∧ match h with
    | [] => u.heap[w20.heap.size]? = some (.cells o 84 (0, 0))
    | [_] => u.heap[w20.heap.size]? = some (.cells o 84 (0, 0))
    | _ => u.heap[w20.heap.size]? = some (.cells v 84 (0, 0))
theorem T24.b {w20 u : World} {o v : Array Value} {h : List Value} (t : T24 w20 o v h u) : Below w20.heap.size w20 u := And.left t
theorem T24.up {w20 u u' : World} {o v : Array Value} {h : List Value} (t : T24 w20 o v h u) (hb : Below u.heap.size u u') : T24 w20 o v h u' := by
  refine ⟨keepB hb (Nat.le_refl _) t.b, ?_⟩
  have t2 := And.right t
  match h, t2 with
  | [], t2 => exact below_blk hb (heap_lt t2) t2
  | [_], t2 => exact below_blk hb (heap_lt t2) t2
  | _ :: _ :: _, t2 => exact below_blk hb (heap_lt t2) t2
theorem T24.zero {w20 u : World} {o v : Array Value} (t : T24 w20 o v [] u) : u.heap[w20.heap.size]? = some (.cells o 84 (0, 0)) := And.right t
theorem T24.one {w20 u : World} {o v : Array Value} {x : Value} (t : T24 w20 o v [x] u) : u.heap[w20.heap.size]? = some (.cells o 84 (0, 0)) := And.right t
theorem T24.two {w20 u : World} {o v : Array Value} {x y : Value} (t : T24 w20 o v [x, y] u) : u.heap[w20.heap.size]? = some (.cells v 84 (0, 0)) := And.right t
theorem one3 (a b c : Value) (ha : a.oneCell' = true) (hb : b.oneCell' = true) (hc : c.oneCell' = true) : (#[a, b, c] : Array Value).all (·.oneCell') = true := by simp [ha, hb, hc]
theorem eq_weak (n x y : Int) (u : World) : Sem.run Tryd.prog (Op.equalIn 10000 84 (.agg #[.int .i64 n, .int .u16 x, .int .u16 y]) (.agg #[.int .i64 n, .int .u16 x, .int .u16 y])) u = .ok true u := by
  go_simp
theorem infoW : (Tryd.prog.info? 84).map (·.size) = some 3 := by kernel_rfl
theorem toBa {u : World} {a : Option Addr} {m : Nat} {L : List Nat} (h : SrcB u a m L) : Ba.SrcB u a m L := h
theorem ofBa {u : World} {a : Option Addr} {m : Nat} {L : List Nat} (h : Ba.SrcB u a m L) : SrcB u a m L := h
theorem buf_none (u : World) (N : Nat) : Bq.Buf u (.slice none 0 0) N [] := Or.inl ⟨rfl, rfl⟩
attribute [local go_sem] Rk.kUpon_value Rk.kUpon_skip Rk.kUpon_enter
set_option maxHeartbeats 3200000 in
theorem walk (n size : Int) (a : Option Addr) (l c : Nat) (L : List Nat) (w : World) (hT : Tbl w) (hF : Fst w) (hs : SrcB w a l L) (hlc : l ≤ c) (hcm : c ≤ 9223372036854775807) (hbn : a = none → l = 0) (hn1 : -9223372036854775808 ≤ n) (hn2 : n ≤ 9223372036854775807) :
    Calls Tryd.prog 14 #[.int .i64 n, .slice a l c, .int .i64 size] w (Post w) := by
  have HT := hide hT
  have HF := hide hF
  have HS := hide hs
  have HA := hide (abc_of w hT hF)
  obtain ⟨T, hT0, hT1, hT2⟩ := abc_digits
  have HT0 := hide hT0
  have kc := Lib.run_convert_bytes_const (P := Tryd.prog) w 31 5 #[.int .u8 97, .int .u8 98, .int .u8 99] 3 3 Tryd.underlying31 Tryd.underlying5
  clear hT hF hs hT0
  go_enter Tryd.func14, Tryd.ntmps14
  go_wp2_with fail
  clear kc
  refine HA.out.mono ?_
  rintro e w2 ⟨rfl, hb2⟩
  have HB2 := hide hb2
  clear hb2 HA
  go_wp2_with fail
  refine (text_c _ w2 (sha_length _) (all8_sha _)).mono ?_
  rintro e w3 ⟨rfl, hb3⟩
  have HB3 := hide (keepB hb3 (Nat.le_refl _) HB2.out)
  rw [HT0.out]
  clear hb3 HB2 HT0
  have kc := Lib.run_convert_bytes_const (P := Tryd.prog) w3 31 5 #[.int .u8 97] 1 1 Tryd.underlying31 Tryd.underlying5
  have HWa := hide (weak_a w3)
  go_wp2_with fail
  clear kc
  refine HWa.out.mono ?_
  rintro e w4 ⟨rfl, hb4⟩
  have HB4 := hide (keepB hb4 (Nat.le_refl _) HB3.out)
  clear hb4 HB3 HWa
  go_wp2_with fail
  refine (Wk.value_any 1 97 97 w4 (by omega) (by omega) (by omega) (by omega)).mono ?_
  rintro e w5 ⟨rfl, hb5⟩
  have HB5 := hide (keepB hb5 (Nat.le_refl _) HB4.out)
  clear hb5 HB4 hT1 hT2
  by_cases hout : 2000 < l ∨ n < 0 ∨ 1099511627776 < n
  · have hc : (2000 < l) ∨ (¬ 2000 < l ∧ n < 0) ∨ (¬ 2000 < l ∧ ¬ n < 0 ∧ 1099511627776 < n) := by omega
    clear hout
    rcases hc with h1 | ⟨h1, h2⟩ | ⟨h1, h2, h3⟩
    all_goals
      go_wp2
      go_ret
      exact ⟨rfl, HB5.out⟩
  obtain ⟨q, rfl⟩ : ∃ q : Nat, n = (q : Int) := ⟨n.toNat, by omega⟩
  have hl2 : l ≤ 2000 := by omega
  have hq2 : q ≤ 1099511627776 := by omega
  clear hout hn1 hn2
  have d1 : decide ((2000 : Int) < (l : Int)) = false := by simp; omega
  have d2 : decide ((q : Int) < 0) = false := by simp
  have d3 : decide ((1099511627776 : Int) < (q : Int)) = false := by simp; omega
  have HX6 := hide (heap_last w5 (.cells #[.slice a l c] 31))
  have HB6 := hide (keepB (below_new w5 (.cells #[.slice a l c] 31)) (Nat.le_refl _) HB5.out)
  go_wp2_with fail
  clear d1 d2 d3 HB5
  generalize (w5.alloc (.cells #[.slice a l c] 31)) = w6 at *
  generalize w5.heap.size = PB at *
  have HO := hide (of_c (some ⟨PB, 0, none⟩) 1 [⟨a, l, c, L⟩] w6 (parts_one (HS.out.below HB6.out) hlc HX6.out) (tbl_keep HT.out HB6.out (Nat.le_refl _)) (fst_keep HF.out HB6.out (Nat.le_refl _)) (by rw [flat_one, HS.out.1]; omega) (by simp))
  rw [flat_one] at HO
  simp only [List.length_cons, List.length_nil, Nat.zero_add] at HO
  refine HO.out.mono ?_
  rintro e w7 ⟨rfl, hb7⟩
  have HB7 := hide (keepB hb7 (Nat.le_refl _) HB6.out)
  clear hb7 HB6 HO HX6
  have HXl : Hid ((sha L).length = 32) := hide (sha_length _)
  have HX8 : Hid (All8 (sha L)) := hide (all8_sha _)
  obtain ⟨X, hX⟩ : ∃ X, X = sha L := ⟨_, rfl⟩
  have HX := hide hX
  rw [← hX] at HXl HX8 ⊢
  clear hX
  have Hz := hide (heap_last w7 (.cells (u8s (zeros 32)) 27))
  have HBz := hide (keepB (below_new w7 (.cells (u8s (zeros 32)) 27)) (Nat.le_refl _) HB7.out)
  have hw7 := HB7.out.size
  go_wp2_with (refine wpList_store_whole rfl 27 (.tmp 8) (.tmp 54) rfl w7.heap.size X (zeros 32) 27 rfl rfl ?_ (by rw [HXl.out, zeros_length]) (by rw [infoS, HXl.out]) ?_; rw [zlit8]; exact Hz.out)
  rw [zlit8]
  intro w8 HW8 HG8
  refine of_hid ?_
  have HB8 := hide (belowG HBz.out HG8.out hw7 HBz.out.size)
  clear Hz HBz HG8 HB7
  generalize w7.heap.size = SB at *
  go_wp2_with fail
  have h6 := Cm.numL_six q hq2
  have h6l := Cm.numL_six l (by omega)
  have hLl := HS.out.1
  have HS8 := hide (HS.out.below HB8.out)
  have HSX := hide (Smc.srcB_whole (T := 27) (f := (0, 0)) HW8.out HX8.out HXl.out)
  refine wp_region_g (T7 w8 (Cm.numL q) (Cm.numL q ++ (Cm.numL l ++ L)) (Cm.numL q ++ (Cm.numL l ++ L) ++ X)) [some (some (.int .i64 (q : Int))), none, some (some (.slice a l c)), none, some (some (.slice (some ⟨SB, 0, none⟩) 32 32)), none, some none] (by kernel_rfl) (by kernel_rfl) [1, 3, 5] [1, 3, 5, 6] rfl rfl (by kernel_rfl) ⟨(Below.refl _ _).drew, trivial⟩ ?_
  refine gF_step (by rfl) (fun h u K hT hK => ?_) ?_
  · go_simp
    exact hK _ hT
  simp only [Act.put, List.setIfInBounds_toArray, List.set_cons_zero, List.set_cons_succ]
  refine gD_step (fun v => True) ⟨undef, trivial⟩ (by rfl) (fun u K hT hK => ?_) (fun v1 hv1 => ?_)
  · go_simp
    go_at_call 48
    (with_reducible refine Calls.mono (Cn.num_c (.slice none 0 0) w8.heap.size [] q u (buf_none _ _) (T7.b hT).size hq2 (by simp)) ?_)
    rintro e u2 ⟨v', rfl, hbuf, hb⟩
    exact hK _ _ trivial (And.intro ((T7.b hT).trans hb) (by simpa using hbuf))
  simp only [Act.put, List.setIfInBounds_toArray, List.set_cons_zero, List.set_cons_succ]
  refine gF_step (by rfl) (fun h u K hT hK => ?_) ?_
  · go_simp
    exact hK _ hT
  simp only [Act.put, List.setIfInBounds_toArray, List.set_cons_zero, List.set_cons_succ]
  refine gD_step (fun v => ∃ g n cap, v = .slice (some ⟨g, 0, none⟩) n cap) ⟨_, 0, 0, 0, rfl⟩ (by rfl) (fun u K hT hK => ?_) (fun v2 hv2 => ?_)
  · go_simp
    go_at_call 47
    (with_reducible refine Calls.mono (CodeBackW.text_buf v1 w8.heap.size (Cm.numL q) l c a L u (T7.one hT) (T7.b hT).size (by omega) (toBa (HS8.out.below (T7.b hT))) hlc hcm (by omega) hbn) ?_)
    rintro e u2 ⟨g, n, cap, rfl, hg, hd, hb⟩
    have hn : n = (Cm.numL q ++ (Cm.numL l ++ L)).length := hd.len.symm
    exact hK _ _ ⟨g, n, cap, rfl⟩ (And.intro ((T7.b hT).trans hb) (Or.inr ⟨g, cap, by rw [hn], hg, by rw [hn] at hd; exact hd⟩))
  obtain ⟨g2, n2, cap2, rfl⟩ := hv2
  simp only [Act.put, List.setIfInBounds_toArray, List.set_cons_zero, List.set_cons_succ]
  refine gF_step (by rfl) (fun h u K hT hK => ?_) ?_
  · go_simp
    exact hK _ hT
  simp only [Act.put, List.setIfInBounds_toArray, List.set_cons_zero, List.set_cons_succ]
  refine gD_step (fun v => ∃ g n cap, v = .slice (some ⟨g, 0, none⟩) n cap) ⟨_, 0, 0, 0, rfl⟩ (by rfl) (fun u K hT hK => ?_) (fun v3 hv3 => ?_)
  · obtain ⟨v', w', hrun, h1, h2⟩ := Bq.append_buf u 31 (.slice (some ⟨g2, 0, none⟩) n2 cap2) w8.heap.size (Cm.numL q ++ (Cm.numL l ++ L)) (some ⟨SB, 0, none⟩) 32 32 X (T7.two hT) (T7.b hT).size (toBa (HSX.out.below (T7.b hT))) (fun h => by cases h) (by simp only [List.length_append]; omega) (by omega)
    refine kUpon_append (.tmp 58) (.tmp 59) rfl hrun ?_
    refine hK _ _ ?_ (T7.mk ((T7.b hT).trans h2) h1)
    rcases h1 with ⟨_, h0⟩ | ⟨g, cap, hv, _⟩
    · exfalso
      have := congrArg List.length h0
      simp only [List.length_append, HXl.out, List.length_nil] at this
      omega
    · exact ⟨g, _, cap, hv⟩
  obtain ⟨g3, n3, cap3, rfl⟩ := hv3
  simp only [Act.put, List.setIfInBounds_toArray, List.set_cons_zero, List.set_cons_succ]
  refine gG_step (v := .slice (some ⟨g3, 0, none⟩) n3 cap3) (by rfl) (fun h' u K hT hK => ?_) ?_
  · go_simp
    exact hK _ hT
  simp only [Act.put, List.setIfInBounds_toArray, List.set_cons_zero, List.set_cons_succ]
  refine g_nil (fun w9 hT9 => ?_)
  have HB9 := hide (keepB (T7.b hT9) (Nat.le_refl _) HB8.out)
  have HBf := hide (T7.three hT9)
  have HW9 := hide (below_blk (T7.b hT9) (heap_lt HW8.out) HW8.out)
  have hDl : (Cm.numL q ++ (Cm.numL l ++ L) ++ X).length ≤ 3000 := by
    simp only [List.length_append, HXl.out]
    omega
  have hDp : 0 < (Cm.numL q ++ (Cm.numL l ++ L) ++ X).length := by
    simp only [List.length_append, HXl.out]
    omega
  clear hT9 HB8 HW8 HS8 HSX
  obtain ⟨D, hD⟩ : ∃ D, D = Cm.numL q ++ (Cm.numL l ++ L) ++ X := ⟨_, rfl⟩
  have HD := hide hD
  rw [← hD] at HBf hDl hDp
  clear hD
  have hDst : ∃ g, (some ⟨g3, 0, none⟩ : Option Addr) = some ⟨g, 0, none⟩ ∧ n3 = D.length ∧ D.length ≤ cap3 ∧ Ba.SrcB w9 (some ⟨g3, 0, none⟩) D.length D := by
    rcases HBf.out with ⟨_, h0⟩ | ⟨g, cap, hv, _, hd⟩
    · rw [h0] at hDp; simp at hDp
    · injection hv with e1 e2 e3
      injection e1 with e1
      injection e1 with e1
      subst e1 e2 e3
      exact ⟨g3, rfl, rfl, hd.fit, hd.src⟩
  obtain ⟨g, -, rfl, hDc, hDs⟩ := hDst
  have HSD := hide hDs
  clear hDs HBf
  have kc := Lib.run_convert_bytes_const (P := Tryd.prog) w9 31 5 #[.int .u8 102, .int .u8 114, .int .u8 111, .int .u8 110, .int .u8 116] 5 5 Tryd.underlying31 Tryd.underlying5
  have HFr := hide (heap_last w9 (.cells #[.int .u8 102, .int .u8 114, .int .u8 111, .int .u8 110, .int .u8 116] 5 (5, 6)))
  have HbF : Hid (Below w9.heap.size w9 (w9.alloc (.cells #[.int .u8 102, .int .u8 114, .int .u8 111, .int .u8 110, .int .u8 116] 5 (5, 6)))) := hide ((Below.refl _ _).alloc (Nat.le_refl _) _)
  go_wp2_with fail
  clear kc
  generalize w9.alloc (.cells #[.int .u8 102, .int .u8 114, .int .u8 111, .int .u8 110, .int .u8 116] 5 (5, 6)) = w10 at *
  have HB10 := hide (keepB HbF.out (Nat.le_refl _) HB9.out)
  have HW10 := hide (below_blk HbF.out (heap_lt HW9.out) HW9.out)
  have HSD10 := hide (HSD.out.below HbF.out)
  have HsF : Hid (Ba.SrcB w10 (some ⟨w9.heap.size, 0, none⟩) 5 [102, 114, 111, 110, 116]) := hide (by
    refine ⟨rfl, by intro z hz; simp only [List.mem_cons, List.not_mem_nil, or_false] at hz; omega, w9.heap.size, 0, fun _ => rfl, fun i hi => ?_⟩
    match i, hi with
    | 0, _ => exact blk_cell HFr.out rfl
    | 1, _ => exact blk_cell HFr.out rfl
    | 2, _ => exact blk_cell HFr.out rfl
    | 3, _ => exact blk_cell HFr.out rfl
    | 4, _ => exact blk_cell HFr.out rfl)
  clear HFr HbF HB9 HW9 HSD
  generalize w9.heap.size = FB at *
  have HAp : Hid (Calls Tryd.prog 29 #[.agg #[.int .i64 5, .int .i64 3, .slice (some ⟨g3, 0, none⟩) D.length cap3], .slice (some ⟨FB, 0, none⟩) 5 5] w10 fun e w' => ∃ g' cap' n, e = .returned (.tuple #[.slice (some ⟨g', 0, none⟩) n cap', .int .i64 0]) ∧ Bp.Dst w' g' n cap' ([102, 114, 111, 110, 116] ++ Fa.frL 5 3 D) ∧ Below w10.heap.size w10 w' ∧ w10.heap.size ≤ g') :=
    hide (Fw.append_front 5 3 (some ⟨g3, 0, none⟩) D.length cap3 FB 5 [102, 114, 111, 110, 116] D w10 HsF.out (by omega) hDp HSD10.out (fun h => by cases h) (by omega) (by omega) (by omega) (by omega) (by omega) hDc)
  refine HAp.out.mono ?_
  rintro e w11 ⟨gA, capA, nA, rfl, hdA, hb11, hgA⟩
  have HB11 := hide (keepB hb11 (Nat.le_refl _) HB10.out)
  have HW11 := hide (below_blk hb11 (heap_lt HW10.out) HW10.out)
  have hfit := hdA.fit
  have hmaxA := hdA.max
  unfold maxLen at hmaxA
  have HSA := hide hdA.src
  have hAl := hdA.len
  clear hdA hb11 HAp HsF HSD10 HB10 HW10
  obtain ⟨m, hm⟩ : ∃ m, m = (Fa.frL 5 3 D).length := ⟨_, rfl⟩
  have hAm : nA = 5 + m := by rw [← hAl, List.length_append, ← hm]; rfl
  have hml : m ≤ 3100 ∧ 0 < m := by
    have h6D := Cm.numL_six D.length (by omega)
    rw [hm]; unfold Fa.frL
    simp only [List.length_append, List.length_cons]
    omega
  clear hAl
  have hAm2 : nA - 5 = m := by omega
  have hA5 : 6 ≤ nA := by omega
  have hA6 : nA ≤ 3105 := by omega
  have hc5 : ¬ (capA = 5) := by omega
  have Hm := hide hm
  clear hm
  have HVF : Hid (Sem.run Tryd.prog (convert 31 9 (.slice (some ⟨gA, 0, none⟩) 5 capA)) w11 = .ok (.string ⟨#[102, 114, 111, 110, 116]⟩) w11) := hide (Bs.conv_src (cap := capA) (L := [102, 114, 111, 110, 116]) (Fd.src_front HSA.out rfl))
  have hVF := HVF.out
  have HAm := hide hAm
  have HAm2 := hide hAm2
  clear hAm hAm2
  go_wp2_with fail
  clear hVF HVF
  have HSA5 : Hid (Ba.SrcB w11 (some ⟨gA, 5, none⟩) (nA - 5) (Fa.frL 5 3 D ++ [])) := hide (by
    have h := Fd.src_drop HSA.out (n := 5) rfl (by omega)
    rw [Addr.add_mid, Nat.zero_add] at h
    rw [List.append_nil]
    exact h)
  have HRd : Hid (Calls Tryd.prog 49 #[.slice (some ⟨gA, 5, none⟩) (nA - 5) (capA - 5)] w11 fun e w' => ∃ g cap, e = .returned (.tuple #[.agg #[.int .i64 5, .int .i64 3, .slice (some ⟨g, 0, none⟩) D.length cap], .int .i64 ((nA : Int) - 5), .nilIface]) ∧ w11.heap.size ≤ g ∧ Bp.Dst w' g D.length cap D ∧ Below w11.heap.size w11 w') := hide (by
    have h := Fd.read_ok 5 3 D ⟨gA, 5, none⟩ (nA - 5) (capA - 5) [] w11 HSA5.out (by omega) (by omega) (by omega) (by omega) (by omega) (by omega)
    refine h.mono ?_
    rintro e w' ⟨g, cap, he, h1, h2, h3⟩
    have e5 : (((Fa.frL 5 3 D).length : Nat) : Int) = (nA : Int) - 5 := by
      have h4 := Hm.out
      have h5 := HAm.out
      omega
    rw [e5] at he
    exact ⟨g, cap, he, h1, h2, h3⟩)
  refine HRd.out.mono ?_
  rintro e w12 ⟨gR, capR, rfl, hgR, hdR, hb12⟩
  have HB12 := hide (keepB hb12 (Nat.le_refl _) HB11.out)
  have HW12 := hide (below_blk hb12 (heap_lt HW11.out) HW11.out)
  have hRf := hdR.fit
  have HSR := hide hdR.src
  clear hdR hb12 HRd HSA5 HSA HB11 HW11 Hm HAm HAm2 hml
  have HFv := hide (heap_last w12 (.cells #[.int .i64 5, .int .i64 3, .slice (some ⟨gR, 0, none⟩) D.length capR] 51))
  have HbV := hide (below_new w12 (.cells #[.int .i64 5, .int .i64 3, .slice (some ⟨gR, 0, none⟩) D.length capR] 51))
  clear hgA hgR hDc hDl hDp hfit hmaxA hc5 h6 h6l hLl
  go_wp2_with fail
  generalize w12.alloc (.cells #[.int .i64 5, .int .i64 3, .slice (some ⟨gR, 0, none⟩) D.length capR] 51) = w13 at *
  have HB13 := hide (keepB HbV.out (Nat.le_refl _) HB12.out)
  have HW13 := hide (below_blk HbV.out (heap_lt HW12.out) HW12.out)
  have HS13 := hide (HSR.out.below HbV.out)
  clear HFv HbV HB12 HW12 HSR
  generalize w12.heap.size = FV at *
  refine (Cr.read_c (some ⟨gR, 0, none⟩) D.length capR w13).mono ?_
  rintro e w14 ⟨rfl, rfl⟩
  have HV := hide (Cz.RV.read (w := w) (c := capR) HS13.out HB13.out)
  have HW14 := hide (heap_old HW13.out (.cells #[.slice (some ⟨gR, 0, none⟩) D.length capR, .int .i64 0, .int .i64 0, .int .i64 0] 144))
  generalize w13.alloc (.cells #[.slice (some ⟨gR, 0, none⟩) D.length capR, .int .i64 0, .int .i64 0, .int .i64 0] 144) = w14 at *
  have hSBg : SB < w13.heap.size := heap_lt HW13.out
  generalize w13.heap.size = g at *
  clear HB13 HW13 HS13
  go_wp2_with fail
  obtain ⟨i, j, k1, k2, k3, k4, k5, k6, k7, k8⟩ := backs q l L X D HD.out hq2 HS.out.1 (by omega) HXl.out
  have hDl : D.length ≤ 3000 := by
    have h6 := Cm.numL_six q hq2
    have h6l := Cm.numL_six l (by omega)
    rw [HD.out]
    simp only [List.length_append, HXl.out, HS.out.1]
    omega
  have HN := hide (Cv.num_c g (some ⟨gR, 0, none⟩) D.length capR D ⟨0, 0, 0⟩ w14 HV.out.rd HV.out.src (Nat.zero_le _) hRf (by omega))
  rw [k1, k2] at HN
  have Hk3 := hide k3
  have Hk4 := hide k4
  have Hk5 := hide k5
  have Hk6 := hide k6
  clear k1 k2 k3 k4 k5 k6
  refine HN.out.mono ?_
  rintro e w15 ⟨rfl, hr, hg⟩
  have HV15 := hide (HV.out.step hr hg)
  have HW15 := hide (keepG hg (by omega) HW14.out)
  have hgl := heap_lt hr
  clear hr hg HV HN HW14
  go_wp2_with fail
  have HTx := hide (Cw.text_c g (some ⟨gR, 0, none⟩) D.length capR D ⟨i, 0, 0⟩ w15 HV15.out.rd HV15.out.src HV15.out.apart (fun h => by cases h) k7 hRf (by omega))
  rw [Hk3.out, Hk4.out] at HTx
  refine HTx.out.mono ?_
  rintro e w16 ⟨v16, rfl, hor, hr, hg⟩
  obtain ⟨gY, capY, rfl, hgY, hdY⟩ : ∃ b cap, v16 = .slice (some ⟨b, 0, none⟩) L.length cap ∧ w15.heap.size ≤ b ∧ Bp.Dst w16 b L.length cap L := by
    rcases hor with h | ⟨_, b, cap, h1, h2, h3⟩
    · exact absurd rfl h.1
    · exact ⟨b, cap, h1, h2, h3⟩
  have HV16 := hide (HV15.out.step hr hg)
  have HW16 := hide (keepG hg (by omega) HW15.out)
  have hfY := hdY.fit
  have HdY := hide hdY
  clear hr hg HV15 HTx HW15 hor hdY
  go_wp2_with fail
  have HSm := hide (Cx.sum_c g (some ⟨gR, 0, none⟩) D.length capR D ⟨j, 0, 0⟩ w16 HV16.out.rd HV16.out.src HV16.out.apart (fun h => by cases h) k8 hRf (by omega))
  rw [Hk5.out, Hk6.out] at HSm
  refine HSm.out.mono ?_
  rintro e w17 ⟨rfl, hr, hg⟩
  have HV17 := hide (HV16.out.step hr hg)
  have HW17 := hide (keepG hg (by omega) HW16.out)
  have hgg : g < w15.heap.size := hgl
  have HdY17 := hide (HdY.out.kept hg (by omega))
  clear hr hg HV16 HSm HW16 HdY Hk3 Hk4 Hk5 Hk6
  have Hz := hide (heap_last w17 (.cells (u8s (zeros 32)) 27))
  have Hbz := hide (below_new w17 (.cells (u8s (zeros 32)) 27))
  go_wp2_with (refine wpList_store_whole rfl 27 (.tmp 18) (.tmp 111) rfl w17.heap.size X (zeros 32) 27 rfl rfl ?_ (by rw [HXl.out, zeros_length]) (by rw [infoS, HXl.out]) ?_; rw [zlit8]; exact Hz.out)
  rw [zlit8]
  intro w18 HZ18 HG18
  refine of_hid ?_
  have hb18 := belowG Hbz.out HG18.out (Nat.le_refl _) Hbz.out.size
  have HV18 := hide (HV17.out.up hb18)
  have HW18 := hide (below_blk hb18 (heap_lt HW17.out) HW17.out)
  have HsY := hide ((HdY17.out.below hb18 HdY17.out.lt).src)
  have hZgt := heap_lt HV17.out.rd
  clear Hz Hbz HG18 hb18 HV17 HW17 HdY17
  generalize w17.heap.size = ZB at *
  go_wp2_with fail
  have hSg : SB ≠ g := by omega
  have hZg : ZB ≠ g := by omega
  have hYg : gY ≠ g := by omega
  have H16 : Hid (S16 w g gR capR SB ZB gY D X L w18) := hide ⟨HV18.out, HW18.out, HZ18.out, HsY.out⟩
  have hSh := HX.out
  have HEn := hide (fun (u : World) (hu : S16 w g gR capR SB ZB gY D X L u) => end_full hu hDl hSg hZg hYg)
  have HCu : Hid (∀ u : World, S16 w g gR capR SB ZB gY D X L u → Calls Tryd.prog 55 #[.int .i64 32, .slice (some ⟨gY, 0, none⟩) L.length capY] u fun e u' => e = .returned (.agg (u8s X)) ∧ S16 w g gR capR SB ZB gY D X L u') := hide (fun u hu => by
    have h := cut_c 32 32 (some ⟨gY, 0, none⟩) L.length capY L u (by unfold Cnt; omega) (ofBa hu.y) hfY (tbl_keep HT.out hu.rv.below (Nat.le_refl _)) (fst_keep HF.out hu.rv.below (Nat.le_refl _)) (by have := HS.out.1; omega)
    rw [cut_whole (sha L) (sha_length _), ← hSh] at h
    exact h.mono fun e u' ⟨h1, h2⟩ => ⟨h1, hu.up h2⟩)
  have HcY := hide (fun (u : World) (hu : S16 w g gR capR SB ZB gY D X L u) => Bs.conv_src (cap := capY) hu.y)
  have HcT := hide (fun (u : World) (hu : S16 w g gR capR SB ZB gY D X L u) => Bs.conv_src (cap := c) (toBa (HS.out.below hu.rv.below)))
  have hq := sum_same X HXl.out
  clear hSh HV18 HW18 HZ18 HsY
  generalize hB : Bs.strN L = B at *
  clear hB
  refine Rk.wp_region_keep (S16 w g gR capR SB ZB gY D X L) (by kernel_rfl) (by kernel_rfl) ⟨H16.out.rv.up (Below.refl _ _).drew, H16.out.sb, H16.out.zb, H16.out.y.below (Below.refl _ _).drew⟩ ?_
  repeat (first
    | (refine Rk.keep_step (v := .agg (u8s X)) (by rfl) (fun u K hS hK => Rx.kUpon_load_mid 27 (.tmp 18) rfl ZB 0 _ rfl (load_sum hS.zb HXl.out) (hK _ hS)) ?_
       simp only [Act.put, List.setIfInBounds_toArray, List.set_cons_zero, List.set_cons_succ])
    | (refine Rk.keep_step (v := .agg (u8s X)) (by rfl) (fun u K hS hK => Rx.kUpon_load_mid 27 (.tmp 8) rfl SB 0 _ rfl (load_sum hS.sb HXl.out) (hK _ hS)) ?_
       simp only [Act.put, List.setIfInBounds_toArray, List.set_cons_zero, List.set_cons_succ])
    | (refine Rk.keep_step (v := ?_) (by rfl) (fun u K hS hK => ?_) ?_
       rotate_left
       · (first
          | (go_simp; first
             | (go_at_call 54; refine (HEn.out _ hS).mono ?_; rintro e u2 ⟨rfl, hu⟩; exact hK _ hu)
             | (go_at_call 55; refine (HCu.out _ hS).mono ?_; rintro e u2 ⟨rfl, hu⟩; exact hK _ hu)
             | (rw [HcY.out _ hS]; go_simp; exact hK _ hS)
             | (rw [HcT.out _ hS]; go_simp; exact hK _ hS)
             | (with_reducible exact hK _ hS)))
       simp only [Act.put, List.setIfInBounds_toArray, List.set_cons_zero, List.set_cons_succ]))
  refine Rk.keep_nil (fun w19 hS19 => ?_)
  have H19 := hide hS19
  clear hS19 H16 HEn HCu HcY HcT hq
  have HB19 := hide H19.out.rv.below
  clear H19
  by_cases hsz : size < 1 ∨ (l : Int) < size
  · have hc : (size < 1) ∨ (¬ size < 1 ∧ (l : Int) < size) := by omega
    clear hsz
    rcases hc with h1 | ⟨h1, h2⟩
    all_goals
      go_wp2
      go_ret
      exact ⟨rfl, HB19.out⟩
  obtain ⟨n, rfl⟩ : ∃ n : Nat, size = (n : Int) := ⟨size.toNat, by omega⟩
  have hn1 : 1 ≤ n := by omega
  have hnl : n ≤ l := by omega
  clear hsz
  obtain ⟨hLl, hL8, b, off, ha, hcell⟩ := HS.out
  have ha := ha (by omega)
  subst ha
  have HLi : Hid ((L.map fun x : Nat => (x : Int)).length = l) := hide (by rw [List.length_map, hLl])
  have hByt : Wm.Byt (L.map fun x : Nat => (x : Int)) := by
    intro z hz
    obtain ⟨x, hx, rfl⟩ := List.mem_map.1 hz
    have := hL8 x hx
    omega
  have hbw : b < w.heap.size := cell_lt (hcell 0 (by omega))
  have HC19 : Hid (∀ i, i < l → w19.cell? ⟨b, off + i, none⟩ = some (.int .u8 ((L.map fun x : Nat => (x : Int)).getD i 0))) := hide (fun i hi => by
    rw [HB19.out.cell (p := ⟨b, off + i, none⟩) hbw, hcell i hi]
    congr 2
    simp [List.getD, show i < L.length by omega])
  have hb19 : b < w19.heap.size := Nat.lt_of_lt_of_le hbw HB19.out.size
  generalize (L.map fun x : Nat => (x : Int)) = M at *
  clear hLl hL8 hcell HS HT HF HD HX
  have d1 : decide ((n : Int) < 1) = false := by simp; omega
  have d2 : decide ((l : Int) < (n : Int)) = false := by simp; omega
  go_wp2_with fail
  clear d1 d2
  refine (Wc.of_row b off c n (M.take n) w19 (by rw [List.length_take, HLi.out]; omega) (Wm.byt_take hByt n) (by omega) hb19 (fun i hi => by rw [HC19.out i (by omega)]; simp [List.getD, List.getElem?_take_of_lt hi])).mono ?_
  rintro e w20 ⟨rfl, hb20⟩
  have HB20 := hide (keepB hb20 (Nat.le_refl _) HB19.out)
  have HC20 := hide (fun i (hi : i < l) => (hb20.cell (p := ⟨b, off + i, none⟩) hb19).trans (HC19.out i hi))
  have hb20' : b < w20.heap.size := Nat.lt_of_lt_of_le hb19 hb20.size
  clear hb20 HC19 HB19 hb19
  have Hst := hide (heap_last w20 (.cells #[.int .i64 (n : Int), .int .u16 (Wm.lo (M.take n)), .int .u16 (Wm.hi (M.take n))] 84))
  go_wp2_with fail
  go_loopw [20] (fun i wr => ∃ k : Nat, k + n ≤ l ∧ i = .int .i64 ((k + n : Nat) : Int) ∧ wr.heap[w20.heap.size]? = some (.cells #[.int .i64 (n : Int), .int .u16 (Wm.lo (Wm.win M k n)), .int .u16 (Wm.hi (Wm.win M k n))] 84 (0, 0)) ∧ Below w20.heap.size w20 wr) (fun i _ => l - (intOf i).toNat)
  case atStart => exact ⟨0, by omega, by rw [Nat.zero_add], by rw [Wm.win_zero]; exact Hst.out, (Below.refl _ _).alloc (Nat.le_refl _) _⟩
  case round =>
    clear Hst
    obtain ⟨k, hk, rfl, h1, hbel⟩ := hrel
    have H1 := hide h1
    have HB := hide hbel
    have z1 := heap_lt h1
    clear h1 hbel
    by_cases hlt : k + n < l
    · have f1 := blk3 H1.out
      have hcx : wr.cell? ⟨b, off + k, none⟩ = some (.int .u8 (M.getD k 0)) := (HB.out.cell (p := ⟨b, off + k, none⟩) hb20').trans (HC20.out k (by omega))
      have hcy : wr.cell? ⟨b, off + (k + n), none⟩ = some (.int .u8 (M.getD (k + n) 0)) := (HB.out.cell (p := ⟨b, off + (k + n), none⟩) hb20').trans (HC20.out (k + n) hlt)
      have hx := Wm.byt_getD hByt k
      have hy := Wm.byt_getD hByt (k + n)
      have HT := hide (Wm.win_cons M k n (by rw [HLi.out]; omega) (by omega))
      have HT2 := hide (show Wm.win M (k + 1) (n - 1) ++ [M.getD (k + n) 0] = Wm.win M (k + 1) n by
        have := Wm.win_snoc M (k + 1) (n - 1) (by rw [HLi.out]; omega)
        rwa [show k + 1 + (n - 1) = k + n by omega, show n - 1 + 1 = n by omega] at this)
      have hlW : (Wm.win M (k + 1) (n - 1)).length = n - 1 := Wm.win_length _ _ _ (by rw [HLi.out]; omega)
      have HlW := hide hlW
      clear hlW
      have hki : (k : Int) + (n : Int) < (l : Int) := by omega
      rw [HT.out] at f1
      generalize M.getD k 0 = x at *
      generalize M.getD (k + n) 0 = y at *
      generalize hVV : Wm.win M (k + 1) (n - 1) = V at *
      clear hVV
      clear f1
      have H1o := H1.out
      rw [HT.out] at H1o
      have HO := hide H1o
      clear H1o H1
      go_wp2_with fail
      refine wp_region_g (T24 w20 #[.int .i64 (n : Int), .int .u16 (Wm.lo (x :: V)), .int .u16 (Wm.hi (x :: V))] #[.int .i64 (n : Int), .int .u16 (Wm.lo (V ++ [y])), .int .u16 (Wm.hi (V ++ [y]))]) [none, some (some (.slice (some ⟨b, off, none⟩) l c)), some (some (.int .i64 ((k + n : Nat) : Int))), some (some (.int .i64 (n : Int))), some (some (.int .i64 (k : Int))), some (some (.pointer (some ⟨b, off + k, none⟩))), some (some (.int .u8 x)), some (some (.slice (some ⟨b, off, none⟩) l c)), some (some (.int .i64 ((k + n : Nat) : Int))), some (some (.pointer (some ⟨b, off + (k + n), none⟩))), some (some (.int .u8 y)), some (some (.agg #[.int .i64 (n : Int), .int .u16 (Wm.lo (V ++ [y])), .int .u16 (Wm.hi (V ++ [y]))])), none] (by kernel_rfl) (by kernel_rfl) [0, 12] [0, 12] rfl rfl (by kernel_rfl) ⟨HB.out.drew, HO.out⟩ ?_
      refine gE_step (v := .agg #[.int .i64 (n : Int), .int .u16 (Wm.lo (x :: V)), .int .u16 (Wm.hi (x :: V))]) (by rfl) (fun u K hT hK => ?_) ?_
      · obtain ⟨c0, c1, c2, -⟩ := blk3 (T24.zero hT)
        go_simp
        exact hK _ (And.intro (T24.b hT) (T24.zero hT))
      simp only [Act.put, List.setIfInBounds_toArray, List.set_cons_zero, List.set_cons_succ]
      refine gF_step (by rfl) (fun h u K hT hK => ?_) ?_
      · go_simp
        exact hK _ hT
      simp only [Act.put, List.setIfInBounds_toArray, List.set_cons_zero, List.set_cons_succ]
      refine gF_step (by rfl) (fun h u K hT hK => ?_) ?_
      · go_simp
        exact hK _ hT
      simp only [Act.put, List.setIfInBounds_toArray, List.set_cons_zero, List.set_cons_succ]
      refine gF_step (by rfl) (fun h u K hT hK => ?_) ?_
      · go_simp
        exact hK _ hT
      simp only [Act.put, List.setIfInBounds_toArray, List.set_cons_zero, List.set_cons_succ]
      refine gF_step (by rfl) (fun h u K hT hK => ?_) ?_
      · have e9 : IntKind.i64.wrap (((k + n : Nat) : Int) - (n : Int)) = (k : Int) := by rw [show ((k + n : Nat) : Int) - (n : Int) = (k : Int) by omega]; exact IntWalk.i64_in _ (by omega)
        have e9' : IntKind.i64.wrap ((k : Int) + (n : Int) - (n : Int)) = (k : Int) := by rw [show (k : Int) + (n : Int) - (n : Int) = (k : Int) by omega]; exact IntWalk.i64_in _ (by omega)
        have e9'' : IntKind.i64.wrap (k : Int) = (k : Int) := IntWalk.i64_in _ (by omega)
        go_simp
        exact hK _ hT
      simp only [Act.put, List.setIfInBounds_toArray, List.set_cons_zero, List.set_cons_succ]
      refine gF_step (by rfl) (fun h u K hT hK => ?_) ?_
      · have e9 : (k : Int) < (l : Int) := by omega
        have e8 : k < l := by omega
        go_simp
        exact hK _ hT
      simp only [Act.put, List.setIfInBounds_toArray, List.set_cons_zero, List.set_cons_succ]
      refine gF_step (by rfl) (fun h u K hT hK => ?_) ?_
      · have hu : u.cell? ⟨b, off + k, none⟩ = some (.int .u8 x) := ((T24.b hT).cell (p := ⟨b, off + k, none⟩) hb20').trans ((HB.out.cell (p := ⟨b, off + k, none⟩) hb20').symm.trans hcx)
        go_simp
        exact hK _ hT
      simp only [Act.put, List.setIfInBounds_toArray, List.set_cons_zero, List.set_cons_succ]
      refine gF_step (by rfl) (fun h u K hT hK => ?_) ?_
      · go_simp
        exact hK _ hT
      simp only [Act.put, List.setIfInBounds_toArray, List.set_cons_zero, List.set_cons_succ]
      refine gF_step (by rfl) (fun h u K hT hK => ?_) ?_
      · go_simp
        exact hK _ hT
      simp only [Act.put, List.setIfInBounds_toArray, List.set_cons_zero, List.set_cons_succ]
      refine gF_step (by rfl) (fun h u K hT hK => ?_) ?_
      · have e9 : (k : Int) + (n : Int) < (l : Int) := by omega
        have e8 : k + n < l := hlt
        have e7 : ((k + n : Nat) : Int) < (l : Int) := by omega
        go_simp
        exact hK _ hT
      simp only [Act.put, List.setIfInBounds_toArray, List.set_cons_zero, List.set_cons_succ]
      refine gF_step (by rfl) (fun h u K hT hK => ?_) ?_
      · have hu : u.cell? ⟨b, off + (k + n), none⟩ = some (.int .u8 y) := ((T24.b hT).cell (p := ⟨b, off + (k + n), none⟩) hb20').trans ((HB.out.cell (p := ⟨b, off + (k + n), none⟩) hb20').symm.trans hcy)
        go_simp
        exact hK _ hT
      simp only [Act.put, List.setIfInBounds_toArray, List.set_cons_zero, List.set_cons_succ]
      refine gF_step (by rfl) (fun h u K hT hK => ?_) ?_
      · go_simp
        go_at_call 56
        (with_reducible refine Calls.mono (Wk.roll_L V n x y u (by rw [HlW.out]; omega) (by rw [HlW.out]; omega) hx.1 hx.2 hy.1 hy.2) ?_)
        rintro e u2 ⟨rfl, hu⟩
        exact hK _ (T24.up hT hu)
      simp only [Act.put, List.setIfInBounds_toArray, List.set_cons_zero, List.set_cons_succ]
      refine gE_step (v := undef) (by rfl) (fun u K hT hK => ?_) ?_
      · refine Rx.kUpon_store_mid 84 (.tmp 19) (.tmp 168) rfl w20.heap.size 0 #[.int .i64 (n : Int), .int .u16 (Wm.lo (V ++ [y])), .int .u16 (Wm.hi (V ++ [y]))] rfl rfl (show u.there w20.heap.size 0 3 from Rx.there_all (T24.one hT)) (by rw [infoW]; rfl) (one3 _ _ _ rfl rfl rfl) ?_
        exact hK _ (And.intro (below_set3 (T24.b hT) (Nat.le_refl w20.heap.size) _ _ _) (blk3_set (T24.one hT) _ _ _))
      simp only [Act.put, List.setIfInBounds_toArray, List.set_cons_zero, List.set_cons_succ]
      refine g_nil (fun w21 hT21 => ?_)
      have H21 := hide (T24.two hT21)
      have HB21 := hide (T24.b hT21)
      clear hT21 HO HB hcx hcy
      rw [HT2.out] at H21
      go_wp2
      go_roundw
      case rel => exact ⟨k + 1, by omega, by go_num, H21.out, HB21.out⟩
      case measure => simp [intOf]; omega
    · have hkl : k = l - n := by omega
      have hkn : k + n = l := by omega
      have HOf := hide (fun (u : World) (hu : Below w20.heap.size w20 u) => Wc.of_row b (off + k) (c - k) n (Wm.win M k n) u (Wm.win_length _ _ _ (by rw [HLi.out]; omega)) (Wm.byt_take (Wm.byt_drop hByt _) _) (by omega) (Nat.lt_of_lt_of_le hb20' hu.size) (fun i hi => by
        rw [Nat.add_assoc, hu.cell (p := ⟨b, off + (k + i), none⟩) hb20', HC20.out (k + i) (by omega)]
        simp [Wm.win, List.getD, List.getElem?_take_of_lt hi]))
      have hq := eq_weak (n : Int) (Wm.lo (Wm.win M k n)) (Wm.hi (Wm.win M k n))
      have H16 : Hid (wr.heap[w20.heap.size]? = some (.cells #[.int .i64 (n : Int), .int .u16 (Wm.lo (Wm.win M k n)), .int .u16 (Wm.hi (Wm.win M k n))] 84 (0, 0)) ∧ Below w20.heap.size w20 wr) := hide ⟨H1.out, HB.out⟩
      clear H1 HB HC20
      generalize Wm.lo (Wm.win M k n) = x at *
      generalize Wm.hi (Wm.win M k n) = y at *
      have e1 : ((l : Int) - (n : Int)) = (k : Int) := by omega
      have E1 := hide e1
      have d3 : decide (((k + n : Nat) : Int) < (l : Int)) = false := by simp; omega
      have d3' : ¬ ((k : Int) + (n : Int) < (l : Int)) := by omega
      clear e1 hkl
      go_wp2_with fail
      refine Rk.wp_region_keep (fun u => u.heap[w20.heap.size]? = some (.cells #[.int .i64 (n : Int), .int .u16 x, .int .u16 y] 84 (0, 0)) ∧ Below w20.heap.size w20 u) (by kernel_rfl) (by kernel_rfl) ⟨H16.out.1, H16.out.2.drew⟩ ?_
      clear H16
      refine Rk.keep_step (v := .agg #[.int .i64 (n : Int), .int .u16 x, .int .u16 y]) (by rfl) (fun u K hS hK => ?_) ?_
      · obtain ⟨c0, c1, c2, -⟩ := blk3 hS.1
        go_simp
        exact hK _ hS
      simp only [Act.put, List.setIfInBounds_toArray, List.set_cons_zero, List.set_cons_succ]
      refine Rk.keep_step (v := ?_) (by rfl) (fun u K hS hK => ?_) ?_
      rotate_left
      · go_simp
        with_reducible exact hK _ hS
      simp only [Act.put, List.setIfInBounds_toArray, List.set_cons_zero, List.set_cons_succ]
      refine Rk.keep_step (v := ?_) (by rfl) (fun u K hS hK => ?_) ?_
      rotate_left
      · go_simp
        with_reducible exact hK _ hS
      simp only [Act.put, List.setIfInBounds_toArray, List.set_cons_zero, List.set_cons_succ]
      refine Rk.keep_step (v := ?_) (by rfl) (fun u K hS hK => ?_) ?_
      rotate_left
      · go_simp
        with_reducible exact hK _ hS
      simp only [Act.put, List.setIfInBounds_toArray, List.set_cons_zero, List.set_cons_succ]
      refine Rk.keep_step (v := ?_) (by rfl) (fun u K hS hK => ?_) ?_
      rotate_left
      · go_simp
        with_reducible exact hK _ hS
      simp only [Act.put, List.setIfInBounds_toArray, List.set_cons_zero, List.set_cons_succ]
      refine Rk.keep_step (v := .int .i64 (k : Int)) (by rfl) (fun u K hS hK => ?_) ?_
      · have e9 : IntKind.i64.wrap ((l : Int) - (n : Int)) = (k : Int) := by rw [E1.out]; exact IntWalk.i64_in _ (by omega)
        go_simp
        exact hK _ hS
      simp only [Act.put, List.setIfInBounds_toArray, List.set_cons_zero, List.set_cons_succ]
      refine Rk.keep_step (v := .slice (some ⟨b, off + k, none⟩) n (c - k)) (by rfl) (fun u K hS hK => ?_) ?_
      · have e8 : (k : Int) ≤ (l : Int) := by omega
        have e7 : ¬ (c = k) := by omega
        have e6 : l - k = n := by omega
        go_simp
        exact hK _ hS
      simp only [Act.put, List.setIfInBounds_toArray, List.set_cons_zero, List.set_cons_succ]
      refine Rk.keep_step (v := .agg #[.int .i64 (n : Int), .int .u16 x, .int .u16 y]) (by rfl) (fun u K hS hK => ?_) ?_
      · go_simp
        go_at_call 45
        (with_reducible refine Calls.mono (HOf.out u hS.2) ?_)
        rintro e u2 ⟨rfl, hu⟩
        exact hK _ ⟨below_blk hu (heap_lt hS.1) hS.1, keepB hu (Nat.le_refl _) hS.2⟩
      simp only [Act.put, List.setIfInBounds_toArray, List.set_cons_zero, List.set_cons_succ]
      repeat (
        refine Rk.keep_step (v := ?_) (by rfl) (fun u K hS hK => ?_) ?_
        rotate_left
        · (go_simp; with_reducible exact hK _ hS)
        simp only [Act.put, List.setIfInBounds_toArray, List.set_cons_zero, List.set_cons_succ])
      refine Rk.keep_nil (fun w22 hS22 => ?_)
      have HB22 := hide (keepB hS22.2 (Nat.le_refl _) HB20.out)
      clear hS22 HOf
      go_wp2
      go_ret
      exact ⟨rfl, HB22.out⟩
end Go.Proofs.YtpaijhmbfljfmaaDoor.WholeFramedW
/- Opening arguments: slices of bytes that came in. -/
namespace Go.Proofs.YtpaijhmbfljfmaaDoor.Sp
set_option linter.unusedVariables false
set_option linter.unusedSimpArgs false
set_option maxRecDepth 100000
open Go.RowKit
open Go.Proofs.YtpaijhmbfljfmaaDoor.Wu Go.Proofs.YtpaijhmbfljfmaaDoor.Sm Go.Proofs.YtpaijhmbfljfmaaDoor.Sh Go.Proofs.YtpaijhmbfljfmaaDoor.Sw0 Go.Proofs.YtpaijhmbfljfmaaDoor.So

theorem i64_bd {n : Int} (h : (Lit.int .i64 n).wf = true) : -9223372036854775808 ≤ n ∧ n ≤ 9223372036854775807 := by
  simp [Lit.wf, IntKind.min, IntKind.max, IntKind.signed, IntKind.bits] at h
  omega
theorem u8_bd {n : Int} (h : (Lit.int .u8 n).wf = true) : 0 ≤ n ∧ n < 256 := by
  simp [Lit.wf, IntKind.min, IntKind.max, IntKind.signed, IntKind.bits] at h
  omega
theorem src_of {w : World} {a : Option Addr} {len cap : Nat} {zs : List Int}
    (h : (a = none ∧ len = 0 ∧ cap = 0 ∧ zs = []) ∨
      ∃ x, a = some x ∧ len ≤ cap ∧ cap ≤ maxLen ∧ zs.length = cap ∧ (∀ i, i < zs.length → w.cell? (x.add i) = some (.int .u8 (zs.getD i 0))) ∧ ∀ n ∈ zs, (Lit.int .u8 n).wf = true) :
    ∃ L : List Nat, SrcB w a len L ∧ len ≤ cap := by
  rcases h with ⟨rfl, rfl, rfl, rfl⟩ | ⟨x, rfl, hl, hm, hz, hcell, hwz⟩
  · exact ⟨[], SrcB.nil w none, Nat.le_refl _⟩
  · by_cases h0 : len = 0
    · subst h0
      exact ⟨[], SrcB.nil w _, hl⟩
    · obtain ⟨b, off, spot⟩ := x
      have hc := hcell 0 (by omega)
      have hspot : spot = none := by simpa [Addr.add] using World.cell?_spot hc
      subst hspot
      have hget : ∀ i, i < len → zs.getD i 0 = ((((zs.take len).map Int.toNat).getD i 0 : Nat) : Int) := by
        intro i hi
        have hi' : i < zs.length := by omega
        have hb := u8_bd (hwz zs[i] (List.getElem_mem hi'))
        simp only [List.getD, List.getElem?_map, List.getElem?_take_of_lt hi, List.getElem?_eq_getElem hi', Option.map_some, Option.getD_some]
        omega
      refine ⟨(zs.take len).map Int.toNat, ⟨by rw [List.length_map, List.length_take]; omega, ?_, b, off, fun _ => rfl, fun i hi => ?_⟩, hl⟩
      · intro z hz'
        simp only [List.mem_map] at hz'
        obtain ⟨y, hy, rfl⟩ := hz'
        have hb := u8_bd (hwz y (List.mem_of_mem_take hy))
        omega
      · have := hcell i (by omega)
        rw [← hget i hi, ← this]
        congr 1
        unfold Addr.add
        split <;> simp_all
end Go.Proofs.YtpaijhmbfljfmaaDoor.Sp
/- A slice of bytes that came in, as bytes. -/
namespace Go.Proofs.YtpaijhmbfljfmaaDoor.Bo
set_option linter.unusedVariables false
set_option linter.unusedSimpArgs false
set_option maxRecDepth 100000
open Go.ChangeShapes Go.WideShapes Go.ChangeAt Go.RowKit
open Go.Proofs.YtpaijhmbfljfmaaDoor.Wu Go.Proofs.YtpaijhmbfljfmaaDoor.Sm Go.Proofs.YtpaijhmbfljfmaaDoor.Sh Go.Proofs.YtpaijhmbfljfmaaDoor.Ba
theorem u8_bd {z : Int} (h : (Lit.int .u8 z).wf = true) : 0 ≤ z ∧ z < 256 := by
  simp [Lit.wf, IntKind.min, IntKind.max, IntKind.signed, IntKind.bits] at h
  omega
theorem src_of_row {w : World} {a : Option Addr} {len cap : Nat} {zs : List Int} (h : (a = none ∧ len = 0 ∧ cap = 0 ∧ zs = []) ∨
      ∃ x, a = some x ∧ len ≤ cap ∧ cap ≤ maxLen ∧ zs.length = cap ∧ (∀ i, i < zs.length → w.cell? (x.add i) = some (.int .u8 (zs.getD i 0))) ∧ ∀ n ∈ zs, (Lit.int .u8 n).wf = true) :
    ∃ L : List Nat, SrcB w a len L ∧ len ≤ cap ∧ cap ≤ 9223372036854775807 ∧ (a = none → len = 0) := by
  rcases h with ⟨rfl, rfl, rfl, rfl⟩ | ⟨⟨b, off, spot⟩, rfl, hl, hm, hz, hcell, hwz⟩
  · exact ⟨[], SrcB.nil w none, Nat.le_refl _, by omega, fun _ => rfl⟩
  · unfold maxLen at hm
    refine ⟨(zs.take len).map Int.toNat, ⟨by simp; omega, ?_, b, off, fun h0 => ?_, fun i hi => ?_⟩, hl, by omega, fun h => by cases h⟩
    · intro x hx
      obtain ⟨z, hz1, rfl⟩ := List.mem_map.1 hx
      have := u8_bd (hwz z (List.mem_of_mem_take hz1))
      omega
    · have hc := hcell 0 (by omega)
      have hspot : spot = none := by simpa [Addr.add] using World.cell?_spot hc
      rw [hspot]
    · have hc0 := hcell 0 (by omega)
      have hspot : spot = none := by simpa [Addr.add] using World.cell?_spot hc0
      subst hspot
      have := hcell i (by omega)
      have e : (⟨b, off, none⟩ : Addr).add i = ⟨b, off + i, none⟩ := by
        by_cases h : i = 0
        · subst h; simp [Addr.add]
        · simp [Addr.add, h]
      rw [e] at this
      rw [this]
      have hi' : i < zs.length := by omega
      have hb := u8_bd (hwz zs[i] (List.getElem_mem hi'))
      have e2 : zs.getD i 0 = zs[i] := by simp [List.getD, hi']
      have e3 : ((zs.take len).map Int.toNat).getD i 0 = zs[i].toNat := by
        simp [List.getD, List.getElem?_take_of_lt hi, hi']
      rw [e2, e3]
      congr 2
      omega
end Go.Proofs.YtpaijhmbfljfmaaDoor.Bo
