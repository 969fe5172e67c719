/- CodeWrites' walk. -/
import Derived.Test.YtnjkjljalinibaaIk
import Derived.Test.YtnjkjljalinibaaCl
import Derived.Test.YtnjkjljalinibaaRt
import Derived.Test.YtnjkjljalinibaaRm
import Derived.Test.YtnjkjljalinibaaBk
namespace Go.Proofs.Ytnjkjljalinibaa.CodeWritesW
set_option linter.unusedVariables false
set_option linter.unusedSimpArgs false
open Go.ChangeShapes Go.WideShapes Go.ChangeAt Go.RowKit
open Go.Proofs.Ytnjkjljalinibaa.Wu Go.Proofs.Ytnjkjljalinibaa.Sm Go.Proofs.Ytnjkjljalinibaa.Sh Go.Proofs.Ytnjkjljalinibaa.Ba Go.Proofs.Ytnjkjljalinibaa.Bp Go.Proofs.Ytnjkjljalinibaa.Bq Go.Proofs.Ytnjkjljalinibaa.Bz Go.Proofs.Ytnjkjljalinibaa.Ij Go.Proofs.Ytnjkjljalinibaa.Ik Go.Proofs.Ytnjkjljalinibaa.Cm Go.Proofs.Ytnjkjljalinibaa.Cn Go.Proofs.Ytnjkjljalinibaa.Cr Go.Proofs.Ytnjkjljalinibaa.Cs Go.Proofs.Ytnjkjljalinibaa.Rk Go.Proofs.Ytnjkjljalinibaa.Ct Go.Proofs.Ytnjkjljalinibaa.Bs Go.Proofs.Ytnjkjljalinibaa.Cl Go.Proofs.Ytnjkjljalinibaa.Cy Go.Proofs.Ytnjkjljalinibaa.Rn Go.Proofs.Ytnjkjljalinibaa.Rt Go.Proofs.Ytnjkjljalinibaa.Rm Go.Proofs.Ytnjkjljalinibaa.Bk
attribute [local go_sem] kUpon_value kUpon_skip kUpon_enter
def Post (w : World) (e : Ending) (w' : World) : Prop := e = .returned (.bool true) ∧ Below w.heap.size w w'
theorem txtL_len (S : List Nat) : (txtL S).length ≤ 8000000 := by
  have h1 : (S.take 4096).length ≤ 4096 := by rw [List.length_take]; omega
  have h2 := numL_six (S.take 4096).length (by omega)
  unfold txtL
  rw [List.length_append]
  omega
/-- Where the walk through the last expression is: behind Num, its text, Text, its text. -/
def stage (g fl cap : Nat) (F A B : List Nat) (u : World) : List Value → Prop
  | [] => Dst u g fl cap F
  | [v] => Dst u g fl cap F ∧ ∃ a m c, v = .slice a m c ∧ SrcB u a m A
  | [_, _] => Dst u g fl cap F
  | [_, _, v] => ∃ a m c, v = .slice a m c ∧ SrcB u a m B
  | _ => True
structure T (w : World) (g fl cap : Nat) (F A B : List Nat) (h : List Value) (u : World) : Prop where
  below : Below w.heap.size w u
  own : SrcB u (some ⟨g, 0, none⟩) fl F
  stage : stage g fl cap F A B u h
theorem T.up {w u u' : World} {g fl cap : Nat} {F A B : List Nat} {h : List Value} (t : T w g fl cap F A B h u) (hb : Below u.heap.size u u') : T w g fl cap F A B h u' := by
  refine ⟨keepB hb (Nat.le_refl _) t.below, t.own.below hb, ?_⟩
  have s := t.stage
  unfold CodeWritesW.stage at *
  split <;> simp only at s ⊢
  · exact s.below hb s.lt
  · exact ⟨s.1.below hb s.1.lt, by obtain ⟨a, m, c, h1, h2⟩ := s.2; exact ⟨a, m, c, h1, h2.below hb⟩⟩
  · exact s.below hb s.lt
  · obtain ⟨a, m, c, h1, h2⟩ := s; exact ⟨a, m, c, h1, h2.below hb⟩
set_option maxHeartbeats 3200000 in
theorem walk (fa sa : Option Addr) (fl fc sl sc : Nat) (F S : List Nat) (n : Int) (w : World) (hf : SrcB w fa fl F) (hfc : fl ≤ fc) (hfm : fc ≤ 9223372036854775807) (hfn : fa = none → fl = 0) (hs : SrcB w sa sl S) (hsc : sl ≤ sc) (hsm : sc ≤ 9223372036854775807) (hsn : sa = none → sl = 0) (h1 : fl ≤ 1000) (h2 : sl ≤ 5000) :
    Calls Try.prog 3 #[.slice fa fl fc, .int .i64 n, .slice sa sl sc] w (Post w) := by
  have HC := hide (reads_c w)
  have HF := hide hf
  have HS := hide hs
  clear hf hs
  have d1 : decide ((1000 : Int) < (fl : Int)) = false := by simp; omega
  have d2 : decide ((5000 : Int) < (sl : Int)) = false := by simp; omega
  go_enter Try.func3, Try.ntmps3
  go_wp2_with fail
  refine HC.out.mono ?_
  rintro e w1 ⟨rfl, hB1⟩
  have HB1 := hide hB1
  clear hB1 HC
  have HF1 := hide ((HF.out.below (w' := w1) HB1.out).below (below_new w1 (.cells #[] 5)))
  have HD0 : Hid (Dst (w1.alloc (.cells #[] 5)) w1.heap.size 0 0 []) := hide (dst_new w1 [] #[] 5 (0, 0) rfl (by intro x hx; cases hx) (by simp [maxLen]))
  go_wp2_with (refine wpList_append_dst rfl _ _ rfl w1.heap.size 0 0 [] fa fl fc F rfl rfl HD0.out HF1.out (by omega) hfn ?_)
  intro g cap w2 HD HG hgg HK
  refine of_hid ?_
  go_wp2_with fail
  have hgN : w.heap.size ≤ g := by
    have := HB1.out.size
    rcases hgg with h | h
    · omega
    · omega
  have HT0 : Hid (T w g fl cap F (F ++ numL (cl n)) (F ++ txtL S) [] w2.drew) := by
    have hb0 := HB1.out.alloc HB1.out.size (.cells #[] 5)
    exact ⟨(belowG hb0 HG.out HB1.out.size hb0.size).drew, HD.out.drew.src, HD.out.drew⟩
  have H1 := hide (fun u (hu : Below w.heap.size w u) => conv_src (cap := fc) (HF.out.below hu))
  have H2 := hide (fun u (hu : Below w.heap.size w u) => conv_src (cap := sc) (HS.out.below hu))
  refine wp_region_d (T w g fl cap F (F ++ numL (cl n)) (F ++ txtL S)) [some ?_, some ?_, none, none, some ?_, some ?_, some ?_, some ?_, some ?_, some ?_, some ?_, some ?_, some ?_, none, none, some ?_, some ?_, some ?_, some ?_, some ?_, some ?_, some ?_, some ?_, some ?_, some ?_, some ?_, some ?_, some ?_, some ?_, some ?_, some ?_] (by kernel_rfl) (by kernel_rfl) [2, 3, 13, 14] rfl (by kernel_rfl) HT0.out ?_
  rotate_left 27
  have HSl : Hid (S.length ≤ 1000000) := hide (by rw [HS.out.1]; omega)
  have hFl := HF.out.1
  have HA1 := hide (fun u : World => add_strN F (numL (cl n)) (by omega) (by have := numL_six (cl n) (cl_eq n).2; omega) u)
  have HA2 := hide (fun u : World => add_strN F (txtL S) (by omega) (txtL_len S) u)
  repeat (
    refine lexF_step (by rfl) (fun h u K hT hK => ?_) ?_
    · (first
        | (go_simp; exact hK _ hT)
        | (go_simp; rw [H1.out u hT.below]; go_simp; exact hK _ hT)
        | (go_simp; rw [H2.out u hT.below]; go_simp; exact hK _ hT)
        | (go_simp; rw [conv_src hT.own]; go_simp; exact hK _ hT)
        | (go_simp; refine (refNum_any n u).mono ?_; rintro e u' ⟨rfl, hb⟩; exact hK _ (hT.up hb))
        | (go_simp; refine (refText_c S u HSl.out).mono ?_; rintro e u' ⟨rfl, hb⟩; exact hK _ (hT.up hb))
        | (have hadd := HA1.out; go_simp; exact hK _ hT)
        | (have hadd := HA2.out; go_simp; exact hK _ hT))
    simp only [Act.put, List.setIfInBounds_toArray, List.set_cons_zero, List.set_cons_succ])
  refine lexD_step (by rfl) (fun u K hT hK => ?_) (fun v23 => ?_)
  · go_simp
    have hd := hT.stage
    refine (num_keep g fl cap F n u hd (by omega)).mono ?_
    rintro e u' ⟨v', rfl, hk⟩
    obtain ⟨a, c, rfl, hs, hd', hg⟩ := hk.form
    exact hK _ _ ⟨belowG hT.below hg hgN hT.below.size, hd'.src, hd', a, _, c, rfl, hs⟩
  simp only [Act.put, List.setIfInBounds_toArray, List.set_cons_zero, List.set_cons_succ]
  refine lexE_step (v := .string (strN (F ++ numL (cl n)))) (by rfl) (fun u K hT hK => ?_) ?_
  · obtain ⟨hd, a, m, c, rfl, hs⟩ := hT.stage
    go_simp
    rw [conv_src hs]
    go_simp
    exact hK _ ⟨hT.below, hT.own, hd⟩
  simp only [Act.put, List.setIfInBounds_toArray, List.set_cons_zero, List.set_cons_succ]
  repeat (
    refine lexF_step (by rfl) (fun h u K hT hK => ?_) ?_
    · (first
        | (go_simp; exact hK _ hT)
        | (go_simp; rw [H1.out u hT.below]; go_simp; exact hK _ hT)
        | (go_simp; rw [H2.out u hT.below]; go_simp; exact hK _ hT)
        | (go_simp; rw [conv_src hT.own]; go_simp; exact hK _ hT)
        | (go_simp; refine (refNum_any n u).mono ?_; rintro e u' ⟨rfl, hb⟩; exact hK _ (hT.up hb))
        | (go_simp; refine (refText_c S u HSl.out).mono ?_; rintro e u' ⟨rfl, hb⟩; exact hK _ (hT.up hb))
        | (have hadd := HA1.out; go_simp; exact hK _ hT)
        | (have hadd := HA2.out; go_simp; exact hK _ hT))
    simp only [Act.put, List.setIfInBounds_toArray, List.set_cons_zero, List.set_cons_succ])
  refine lexD_step (by rfl) (fun u K hT hK => ?_) (fun v34 => ?_)
  · go_simp
    have hd := hT.stage
    refine (text_any g fl cap sl sc sa F S u hd (HS.out.below hT.below) hsc hsm (by omega) hsn).mono ?_
    rintro e u' ⟨g', cap', m, rfl, hd', hg, _, hr⟩
    refine hK _ _ ⟨belowG hT.below hg hgN hT.below.size, ⟨hFl, hd.all, g, 0, fun _ => rfl, fun i hi => hr i _ (by
      unfold b8
      rw [List.getElem?_map, List.getElem?_eq_getElem (by omega)]
      simp [List.getD, List.getElem?_eq_getElem (show i < F.length by omega)])⟩, _, m, cap', rfl, ?_⟩
    have := hd'.src
    rw [List.append_assoc] at this
    exact this
  simp only [Act.put, List.setIfInBounds_toArray, List.set_cons_zero, List.set_cons_succ]
  refine lexE_step (v := .string (strN (F ++ txtL S))) (by rfl) (fun u K hT hK => ?_) ?_
  · obtain ⟨a, m, c, rfl, hs⟩ := hT.stage
    go_simp
    rw [conv_src hs]
    go_simp
    exact hK _ ⟨hT.below, hT.own, trivial⟩
  simp only [Act.put, List.setIfInBounds_toArray, List.set_cons_zero, List.set_cons_succ]
  repeat (
    refine lexF_step (by rfl) (fun h u K hT hK => ?_) ?_
    · (first
        | (go_simp; exact hK _ hT)
        | (go_simp; rw [H1.out u hT.below]; go_simp; exact hK _ hT)
        | (go_simp; rw [H2.out u hT.below]; go_simp; exact hK _ hT)
        | (go_simp; rw [conv_src hT.own]; go_simp; exact hK _ hT)
        | (go_simp; refine (refNum_any n u).mono ?_; rintro e u' ⟨rfl, hb⟩; exact hK _ (hT.up hb))
        | (go_simp; refine (refText_c S u HSl.out).mono ?_; rintro e u' ⟨rfl, hb⟩; exact hK _ (hT.up hb))
        | (have hadd := HA1.out; go_simp; exact hK _ hT)
        | (have hadd := HA2.out; go_simp; exact hK _ hT))
    simp only [Act.put, List.setIfInBounds_toArray, List.set_cons_zero, List.set_cons_succ])
  refine lexD_nil (fun w3 hT => ?_)
  have HB3 := hide hT.below
  clear hT
  go_wp2
  go_ret
  exact ⟨rfl, HB3.out⟩
theorem out_walk (fa sa : Option Addr) (fl fc sl sc : Nat) (n : Int) (w : World) (h : 1000 < fl ∨ 5000 < sl) (hf : fl ≤ 9223372036854775807) (hs : sl ≤ 9223372036854775807) :
    Calls Try.prog 3 #[.slice fa fl fc, .int .i64 n, .slice sa sl sc] w (Post w) := by
  have HC := hide (reads_c w)
  go_enter Try.func3, Try.ntmps3
  go_wp2_with fail
  refine HC.out.mono ?_
  rintro e w1 ⟨rfl, hb⟩
  have HB := hide hb
  clear hb HC
  by_cases h1 : 1000 < fl
  · have d1 : decide ((1000 : Int) < (fl : Int)) = true := by simp; omega
    have d1' : decide (1000 < fl) = true := by simp; omega
    go_wp2
    go_ret
    exact ⟨rfl, HB.out⟩
  · have d1 : decide ((1000 : Int) < (fl : Int)) = false := by simp; omega
    have d1' : decide (1000 < fl) = false := by simp; omega
    have d2 : decide ((5000 : Int) < (sl : Int)) = true := by simp; omega
    have d2' : decide (5000 < sl) = true := by simp; omega
    go_wp2
    go_ret
    exact ⟨rfl, HB.out⟩
end Go.Proofs.Ytnjkjljalinibaa.CodeWritesW
