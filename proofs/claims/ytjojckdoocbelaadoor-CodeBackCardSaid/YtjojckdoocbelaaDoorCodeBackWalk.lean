/- CodeBack's walk. -/
import Derived.Test.YtjojckdoocbelaaDoorCl
import Derived.Test.YtjojckdoocbelaaDoorIm
import Derived.Test.YtjojckdoocbelaaDoorRm
namespace Go.Proofs.YtjojckdoocbelaaDoor.CodeBackW
set_option linter.unusedVariables false
set_option linter.unusedSimpArgs false
set_option maxRecDepth 100000
open Go.ChangeShapes Go.WideShapes Go.ChangeAt Go.RowKit
open Go.Proofs.YtjojckdoocbelaaDoor.Wu Go.Proofs.YtjojckdoocbelaaDoor.Sm Go.Proofs.YtjojckdoocbelaaDoor.Sh Go.Proofs.YtjojckdoocbelaaDoor.Ba Go.Proofs.YtjojckdoocbelaaDoor.Bp Go.Proofs.YtjojckdoocbelaaDoor.Bq Go.Proofs.YtjojckdoocbelaaDoor.Bs Go.Proofs.YtjojckdoocbelaaDoor.Cm Go.Proofs.YtjojckdoocbelaaDoor.Cn Go.Proofs.YtjojckdoocbelaaDoor.Cy Go.Proofs.YtjojckdoocbelaaDoor.Cr Go.Proofs.YtjojckdoocbelaaDoor.Cl Go.Proofs.YtjojckdoocbelaaDoor.Er Go.Proofs.YtjojckdoocbelaaDoor.Eu Go.Proofs.YtjojckdoocbelaaDoor.Cv Go.Proofs.YtjojckdoocbelaaDoor.Cw Go.Proofs.YtjojckdoocbelaaDoor.Cx Go.Proofs.YtjojckdoocbelaaDoor.Cz Go.Proofs.YtjojckdoocbelaaDoor.Ik Go.Proofs.YtjojckdoocbelaaDoor.Il Go.Proofs.YtjojckdoocbelaaDoor.Im Go.Proofs.YtjojckdoocbelaaDoor.Rm
def Post (w : World) (e : Ending) (w' : World) : Prop := e = .returned (.bool true) ∧ Below w.heap.size w w'
theorem out_walk (a : Option Addr) (n c : Nat) (sa : Option Addr) (l sc : Nat) (cut : Int) (w : World) (h : 30 < n ∨ 4096 < l) (hn : n ≤ 9223372036854775807) (hl : l ≤ 9223372036854775807) :
    Calls Tryd.prog 9 #[.slice a n c, .slice sa l sc, .int .i64 cut] w (Post w) := by
  have HC := hide (reads_c w)
  go_enter Tryd.func9, Tryd.ntmps9
  go_wp2_with fail
  refine HC.out.mono ?_
  rintro e w1 ⟨rfl, hb⟩
  have HB := hide hb
  clear hb HC
  by_cases h1 : 30 < n
  · have d1 : decide ((30 : Int) < (n : Int)) = true := by simp; omega
    have d1' : decide (30 < n) = true := by simp; omega
    go_wp2
    go_ret
    exact ⟨rfl, HB.out⟩
  · have d1 : decide ((30 : Int) < (n : Int)) = false := by simp; omega
    have d1' : decide (30 < n) = false := by simp; omega
    have d2 : decide ((4096 : Int) < (l : Int)) = true := by simp; omega
    have d2' : decide (4096 < l) = true := by simp; omega
    go_wp2
    go_ret
    exact ⟨rfl, HB.out⟩
/-- The first t numbers' bytes. -/
def nums (zs : List Int) : Nat → List Nat
  | 0 => []
  | t + 1 => nums zs t ++ numL (cl (zs.getD t 0))
theorem cl_max (z : Int) : cl z ≤ 1099511627776 := by
  unfold cl
  split
  · omega
  · split <;> omega
theorem nums_len (zs : List Int) (t : Nat) : (nums zs t).length ≤ 6 * t := by
  induction t with
  | zero => simp [nums]
  | succ t ih =>
    have := numL_six (cl (zs.getD t 0)) (cl_max _)
    unfold nums
    rw [List.length_append]
    omega
/-- The bytes of all are those of the first, and more. -/
theorem nums_pre (zs : List Int) (n t : Nat) (h : t ≤ n) : ∃ R, nums zs n = nums zs t ++ R := by
  induction n with
  | zero => obtain rfl : t = 0 := by omega
            exact ⟨[], by simp⟩
  | succ n ih =>
    by_cases ht : t ≤ n
    · obtain ⟨R, hR⟩ := ih ht
      exact ⟨R ++ numL (cl (zs.getD n 0)), by rw [nums, hR, List.append_assoc]⟩
    · obtain rfl : t = n + 1 := by omega
      exact ⟨[], by simp⟩
theorem nums_at (zs : List Int) (n t : Nat) (h : t < n) (X : List Nat) : ∃ R, nums zs n ++ X = nums zs t ++ (numL (cl (zs.getD t 0)) ++ R) := by
  obtain ⟨R, hR⟩ := nums_pre zs n (t + 1) h
  exact ⟨R ++ X, by rw [hR, nums]; simp⟩
theorem numP_cut : ∀ (n j i acc : Nat), j < (numL n).length → i + (numL n).length ≤ 6 → numP ((numL n).take j) i acc = .bad 30 := by
  intro n
  induction n using Nat.strongRecOn with
  | _ n ih =>
    intro j i acc hj hl
    cases j with
    | zero => rw [List.take_zero]; rfl
    | succ j =>
      by_cases h : n < 128
      · rw [numL_small n h] at hj
        simp at hj
      · rw [numL_big n h] at hj hl ⊢
        simp only [List.length_cons] at hj hl
        rw [List.take_succ_cons]
        unfold numP
        have hp := numL_pos (n / 128)
        rw [if_neg (by omega), if_pos (by omega)]
        exact ih (n / 128) (by omega) j (i + 1) _ (by omega) (by omega)
/-- A number of which not all is there. -/
theorem num_cut (A R : List Nat) (i n k : Nat) (hA : A.length = i) (hn : n ≤ 1099511627776) (hik : i ≤ k) (hk : k ≤ (A ++ (numL n ++ R)).length) :
    (i + (numL n).length ≤ k ∧ (Rs.mk i 0 0).num ((A ++ (numL n ++ R)).take k) = ⟨i + (numL n).length, 0, 0⟩ ∧ (Rs.mk i 0 0).numV ((A ++ (numL n ++ R)).take k) = n) ∨
      ((Rs.mk i 0 0).num ((A ++ (numL n ++ R)).take k) = ⟨i, (k : Int), 30⟩ ∧ (Rs.mk i 0 0).numV ((A ++ (numL n ++ R)).take k) = 0) := by
  have hlen : ((A ++ (numL n ++ R)).take k).length = k := by rw [List.length_take]; omega
  by_cases h : i + (numL n).length ≤ k
  · left
    have e : (A ++ (numL n ++ R)).take k = A ++ (numL n ++ R.take (k - i - (numL n).length)) := by
      rw [List.take_append, List.take_of_length_le (by omega), List.take_append, List.take_of_length_le (by omega), hA]
    rw [e]
    exact ⟨h, num_back A [] _ i n 0 hA hn⟩
  · right
    have e : ((A ++ (numL n ++ R)).take k).drop i = (numL n).take (k - i) := by
      rw [List.drop_take, ← hA, List.drop_left, List.take_append, show k - A.length - (numL n).length = 0 by omega]
      simp
    have hp := numP_cut n (k - i) 0 0 (by omega) (by have := numL_six n hn; omega)
    unfold Rs.num Rs.numV
    simp only [e, hp, hlen, if_true]
    exact ⟨rfl, trivial⟩
theorem text_cut (A S : List Nat) (i l k : Nat) (hA : A.length = i) (hS : S.length = l) (hl : l ≤ 4096) (hik : i ≤ k) (hk : k < i + ((numL l).length + l)) :
    (Rs.mk i 0 0).text ((A ++ (numL l ++ S)).take k) = ⟨i, (k : Int), 30⟩ := by
  have hkl : k ≤ (A ++ (numL l ++ S)).length := by simp only [List.length_append]; omega
  have hlen : ((A ++ (numL l ++ S)).take k).length = k := by rw [List.length_take]; omega
  rcases num_cut A S i l k hA (by omega) hik hkl with ⟨h0, h1, h2⟩ | ⟨h1, h2⟩
  · have h3 : (Rs.mk i 0 0).pre ((A ++ (numL l ++ S)).take k) = ⟨i + (numL l).length, (k : Int), 30⟩ := by
      unfold Rs.pre Rs.mid
      rw [h1, h2, if_neg (by omega), hlen]
      unfold Rs.has
      rw [if_pos ⟨rfl, by show k < i + (numL l).length + l; omega⟩]
    unfold Rs.text
    rw [h3]
    simp
  · have h3 : (Rs.mk i 0 0).pre ((A ++ (numL l ++ S)).take k) = ⟨i, (k : Int), 30⟩ := by
      unfold Rs.pre Rs.mid
      rw [h1, h2, if_neg (by omega)]
      exact Rs.has_stuck _ _ _ (by show ¬ (30 : Int) = 0; decide)
    unfold Rs.text
    rw [h3]
    simp
/-- The reader of what is cut, behind t numbers. -/
def Ok (zs : List Int) (k t : Nat) (s : Rs) : Prop := s.at_ ≤ k ∧ (s = ⟨(nums zs t).length, 0, 0⟩ ∨ s.fa = (k : Int) ∧ s.fe = 30)
theorem Ok.num {zs : List Int} {k t n : Nat} {s : Rs} {L X : List Nat} (h : Ok zs k t s) (ht : t < n) (hL : L = nums zs n ++ X) (hk : k ≤ L.length) : Ok zs k (t + 1) (s.num (L.take k)) := by
  obtain ⟨h0, h1⟩ := h
  rcases h1 with rfl | ⟨h1, h2⟩
  · obtain ⟨R, hR⟩ := nums_at zs n t ht X
    rw [hR] at hL
    subst hL
    rcases num_cut (nums zs t) R _ (cl (zs.getD t 0)) k rfl (cl_max _) h0 hk with ⟨h3, h4, _⟩ | ⟨h4, _⟩
    · rw [h4]
      exact ⟨h3, .inl (by rw [nums, List.length_append])⟩
    · rw [h4]
      exact ⟨h0, .inr ⟨rfl, rfl⟩⟩
  · rw [(Rs.num_stuck s _ (by rw [h2]; decide)).1]
    exact ⟨h0, .inr ⟨h1, h2⟩⟩
theorem Ok.text {zs : List Int} {k n l : Nat} {s : Rs} {L S : List Nat} (h : Ok zs k n s) (hS : S.length = l) (hl : l ≤ 4096) (hL : L = nums zs n ++ (numL l ++ S)) (hk : k < (nums zs n).length + ((numL l).length + l)) : (s.text (L.take k)).fa = (k : Int) ∧ (s.text (L.take k)).fe = 30 := by
  obtain ⟨h0, h1⟩ := h
  rcases h1 with rfl | ⟨h1, h2⟩
  · rw [hL, text_cut (nums zs n) S _ l k rfl hS hl h0 hk]
    exact ⟨rfl, rfl⟩
  · rw [(Rs.text_stuck s _ (by rw [h2]; decide)).1]
    exact ⟨h1, h2⟩
/-- Where the walk through the comparison is: before Text, behind it, behind its text, behind End and At. -/
def T (w : World) (g : Nat) (a : Option Addr) (m c : Nat) (L F : List Nat) (s0 s1 : Rs) (h : List Value) (u : World) : Prop :=
  match h with
  | [] => RV w u g a m c L s0
  | [v] => RV w u g a m c L s1 ∧ ∃ b n k, v = .slice b n k ∧ SrcB u b n F
  | _ => RV w u g a m c L s1
theorem T.below {w u : World} {g : Nat} {a : Option Addr} {m c : Nat} {L F : List Nat} {s0 s1 : Rs} {h : List Value} (t : T w g a m c L F s0 s1 h u) : Below w.heap.size w u := by
  unfold T at t
  split at t
  · exact RV.below t
  · exact RV.below t.1
  · exact RV.below t
theorem text_buf (v : Value) (N : Nat) (L : List Nat) (l sc : Nat) (sa : Option Addr) (S : List Nat) (w : World) (hb : Buf w v N L) (hN : N ≤ w.heap.size) (hL : L.length ≤ 1000000) (hs : SrcB w sa l S) (hsc : l ≤ sc) (hscm : sc ≤ 9223372036854775807) (hl : l ≤ 4096) (hn : sa = none → l = 0) :
    Calls Tryd.prog 38 #[v, .slice sa l sc] w fun e w' => ∃ g n cap, e = .returned (.slice (some ⟨g, 0, none⟩) n cap) ∧ N ≤ g ∧ Dst w' g n cap (L ++ (numL l ++ S)) ∧ Below N w w' := by
  have hSl := hs.1
  rcases hb with ⟨rfl, rfl⟩ | ⟨g, cap, rfl, hg, hd⟩
  · refine (text_nil l sc sa S w hs hsc hscm hl hn).mono ?_
    rintro e w' ⟨g, n, cap, rfl, h1, h2, h3⟩
    rw [hSl] at h2
    exact ⟨g, n, cap, rfl, by omega, by simpa using h2, ⟨h3.os, h3.tape, h3.output, by have := h3.size; omega, fun k hk => h3.block k (by omega)⟩⟩
  · refine (text_any g L.length cap l sc sa L S w hd hs hsc hscm hL hn).mono ?_
    rintro e w' ⟨g', cap', n, rfl, h1, h2, h3, _⟩
    have e1 : S.take 4096 = S := List.take_of_length_le (by omega)
    rw [e1, hSl, List.append_assoc] at h1
    refine ⟨g', n, cap', rfl, ?_, h1, belowG (Below.refl N w) h2 hg hN⟩
    rcases h3 with rfl | h
    · exact hg
    · omega
set_option maxHeartbeats 3200000 in
theorem walk (a : Option Addr) (n c : Nat) (zs : List Int) (sa : Option Addr) (l sc : Nat) (S : List Nat) (cut : Int) (w : World) (he : Et w) (hz : 0 < n → ∃ xb xo, a = some ⟨xb, xo, none⟩ ∧ ∀ i, i < n → w.cell? ⟨xb, xo + i, none⟩ = some (.int .i64 (zs.getD i 0))) (hn : n ≤ 30) (hs : SrcB w sa l S) (hsc : l ≤ sc) (hscm : sc ≤ 9223372036854775807) (hsn : sa = none → l = 0) (hl : l ≤ 4096) :
    Calls Tryd.prog 9 #[.slice a n c, .slice sa l sc, .int .i64 cut] w (Post w) := by
  have HC := hide (reads_c w)
  have HE := hide he
  have HS := hide hs
  have HZ := hide hz
  have HSm := hide hs.1
  clear hs he hz
  have d1 : decide ((30 : Int) < (n : Int)) = false := by simp; omega
  have d1' : decide (30 < n) = false := by simp; omega
  have d2 : decide ((4096 : Int) < (l : Int)) = false := by simp; omega
  have d2' : decide (4096 < l) = false := by simp; omega
  go_enter Tryd.func9, Tryd.ntmps9
  go_wp2_with fail
  refine HC.out.mono ?_
  rintro e w1 ⟨rfl, hb⟩
  have HB1 := hide hb
  clear hb HC
  go_wp2_with fail
  have h1s := HB1.out.size
  go_loopw [7, 25] (fun b j wr => ∃ t : Nat, j = .int .i64 (t : Int) ∧ t ≤ n ∧ Buf wr b w1.heap.size (nums zs t) ∧ Below w1.heap.size w1 wr) (fun _ j _ => n - (intOf j).toNat)
  case atStart => exact ⟨0, rfl, by omega, Or.inl ⟨rfl, rfl⟩, Below.refl _ _⟩
  case round =>
    obtain ⟨t, rfl, ht, hbf, hbl⟩ := hrel
    have HBf := hide hbf
    have HBl := hide hbl
    clear hbf hbl
    by_cases htn : t < n
    · have d3 : decide ((t : Int) < (n : Int)) = true := by simp; omega
      obtain ⟨xb, xo, rfl, hx⟩ := HZ.out (by omega)
      have hx' := keepC HBl.out (Nat.le_refl _) (keepC HB1.out (Nat.le_refl _) (hx t htn))
      clear hx
      have hnl := nums_len zs t
      have HN := hide (num_any _ w1.heap.size (nums zs t) (zs.getD t 0) _ HBf.out HBl.out.size (by omega))
      obtain ⟨z, hz⟩ : ∃ z, z = zs.getD t 0 := ⟨_, rfl⟩
      rw [← hz] at HN hx'
      have Hz := hide hz
      clear hz
      go_wp2_with fail
      refine HN.out.mono ?_
      rintro e w2 ⟨v2, rfl, hbf, hb2⟩
      have HBf2 := hide hbf
      have HBl2 := hide (HBl.out.trans hb2)
      clear hbf hb2 HN
      go_wp2
      go_roundw
      case rel => exact ⟨t + 1, by go_num, by omega, by rw [nums, ← Hz.out]; exact HBf2.out, HBl2.out⟩
      case measure => simp [intOf]; omega
    · have d3 : decide ((t : Int) < (n : Int)) = false := by simp; omega
      obtain rfl : t = n := by omega
      have HBw := hide (keepB HBl.out (Nat.le_refl _) HB1.out)
      have hnl := nums_len zs t
      go_wp2_with fail
      refine (text_buf u7 w1.heap.size (nums zs t) l sc sa S wr HBf.out HBl.out.size (by omega) (HS.out.below HBw.out) hsc hscm hl hsn).mono ?_
      rintro e w3 ⟨g3, m3, cap3, rfl, hg3, hd3, hb3⟩
      have HB3 := hide (HBw.out.trans (hb3.mono h1s))
      have HSr := hide hd3.src
      have hfit := hd3.fit
      have h6 := numL_six l (by omega)
      have HSm' := HSm
      have hm3 : m3 = (nums zs t).length + ((numL l).length + l) := by
        rw [← hd3.len]
        simp only [List.length_append]
        have := HSm.out
        omega
      have Hm3 := hide hm3
      have hm3' : m3 ≤ 10000 := by omega
      obtain ⟨L, hL⟩ : ∃ L, L = nums zs t ++ (numL l ++ S) := ⟨_, rfl⟩
      rw [← hL] at HSr
      have HL := hide hL
      clear hL hd3 hb3 hm3 HBf HBl HBw h6 htn d3 ht
      go_wp2_with fail
      refine (read_c (some ⟨g3, 0, none⟩) m3 cap3 w3).mono ?_
      rintro e w5 ⟨rfl, rfl⟩
      have HV := hide (RV.read (c := cap3) HSr.out HB3.out)
      generalize w3.alloc (.cells #[.slice (some ⟨g3, 0, none⟩) m3 cap3, .int .i64 0, .int .i64 0, .int .i64 0] 87) = w5 at *
      generalize w3.heap.size = g at *
      clear HB3 HSr
      go_wp2_with fail
      generalize t = n at *
      go_loopw [40] (fun j wr => ∃ t : Nat, j = .int .i64 (t : Int) ∧ t ≤ n ∧ RV w wr g (some ⟨g3, 0, none⟩) m3 cap3 L ⟨(nums zs t).length, 0, 0⟩) (fun j _ => n - (intOf j).toNat)
      case atStart => exact ⟨0, rfl, by omega, HV.out⟩
      case round =>
        clear HV
        obtain ⟨t, rfl, ht, hv⟩ := hrel
        have HV := hide hv
        clear hv
        by_cases htn : t < n
        · have d3 : decide ((t : Int) < (n : Int)) = true := by simp; omega
          obtain ⟨xb, xo, rfl, hx⟩ := HZ.out (by omega)
          have hx' := keepC HV.out.below (Nat.le_refl _) (hx t htn)
          clear hx
          obtain ⟨R, hR⟩ := nums_at zs n t htn (numL l ++ S)
          rw [← HL.out] at hR
          have hbk := num_back (nums zs t) [] R (nums zs t).length (cl (zs.getD t 0)) 0 rfl (cl_max _)
          rw [← hR, ← List.length_append] at hbk
          have hle : (nums zs t).length ≤ m3 := by
            have := congrArg List.length hR
            rw [HV.out.src.1, List.length_append] at this
            omega
          have HN := hide hbk
          obtain ⟨q, hq⟩ : ∃ q, q = nums zs t ++ numL (cl (zs.getD t 0)) := ⟨_, rfl⟩
          have Hq : Hid (q = nums zs (t + 1)) := hide (by rw [hq, nums])
          rw [← hq] at HN
          clear hbk hR hq
          obtain ⟨z, hz⟩ : ∃ z, z = zs.getD t 0 := ⟨_, rfl⟩
          rw [← hz] at HN hx'
          clear hz
          have hcz : max 0 (min z 1099511627776) = ((cl z : Nat) : Int) := by
            unfold cl
            split
            · omega
            · split <;> omega
          have hcm := cl_max z
          have hce : (((cl z : Nat) : Int) != ((cl z : Nat) : Int)) = false := by simp
          go_wp2_with fail
          refine (num_c g (some ⟨g3, 0, none⟩) m3 cap3 L ⟨(nums zs t).length, 0, 0⟩ _ HV.out.rd HV.out.src hle hfit (by omega)).mono ?_
          rw [HN.out.1, HN.out.2]
          rintro e w6 ⟨rfl, hr, hg⟩
          have HV6 := hide (HV.out.step hr hg)
          clear hr hg HV HN
          go_wp2
          go_roundw
          case rel => exact ⟨t + 1, by go_num, by omega, by rw [← Hq.out]; exact HV6.out⟩
          case measure => simp [intOf]; omega
        · have d3 : decide ((t : Int) < (n : Int)) = false := by simp; omega
          obtain rfl : t = n := by omega
          have hbk := text_back (nums zs t) S [] (nums zs t).length l 0 rfl HSm.out hl
          rw [List.append_nil, ← HL.out, Nat.add_assoc, ← Hm3.out] at hbk
          have HT1 := hide hbk
          clear hbk
          have hi3 : (nums zs t).length ≤ m3 := by have := Hm3.out; omega
          have mixed : Tryd.prog.follows Departure.mixedOrders = true := by kernel_rfl
          have HT0 : Hid (T w g (some ⟨g3, 0, none⟩) m3 cap3 L S ⟨(nums zs t).length, 0, 0⟩ ⟨m3, 0, 0⟩ [] wr.drew) := hide (HV.out.up (Below.refl _ _).drew)
          have HFr := hide (fun u (hu : Below w.heap.size w u) => conv_src (cap := sc) (HS.out.below hu))
          clear HV
          go_wp2_with fail
          refine wp_region_d (T w g (some ⟨g3, 0, none⟩) m3 cap3 L S ⟨(nums zs t).length, 0, 0⟩ ⟨m3, 0, 0⟩) [some ?_, none, none, some ?_, some ?_, some ?_, some ?_, some ?_, none, some ?_, some ?_, some ?_, some ?_, none, some ?_, some ?_, some ?_, some ?_] mixed (by kernel_rfl) [1, 2, 8, 13] rfl (by kernel_rfl) HT0.out ?_
          rotate_left 14
          · refine lexF_step (by rfl) (fun h u K hT hK => ?_) ?_
            · go_simp
              exact hK _ hT
            simp only [Act.put, List.setIfInBounds_toArray, List.set_cons_zero, List.set_cons_succ]
            refine lexD_step (by rfl) (fun u K hT hK => ?_) (fun v23 => ?_)
            · go_simp
              have hv : RV w u g (some ⟨g3, 0, none⟩) m3 cap3 L ⟨(nums zs t).length, 0, 0⟩ := hT
              refine (text_c g (some ⟨g3, 0, none⟩) m3 cap3 L ⟨(nums zs t).length, 0, 0⟩ u hv.rd hv.src hv.apart (fun h => by cases h) hi3 hfit (by omega)).mono ?_
              rw [HT1.out.1, HT1.out.2]
              rintro e u' ⟨v, rfl, hor, hr, hg⟩
              obtain ⟨b, k, rfl, hsr⟩ : ∃ b k, v = .slice b S.length k ∧ SrcB u' b S.length S := by
                rcases hor with h | ⟨_, b, k, h1, h2, h3⟩
                · exact absurd rfl h.1
                · exact ⟨_, k, h1, h3.src⟩
              exact hK _ _ ⟨hv.step hr hg, b, _, k, rfl, hsr⟩
            simp only [Act.put, List.setIfInBounds_toArray, List.set_cons_zero, List.set_cons_succ]
            refine lexE_step (v := .string (strN S)) (by rfl) (fun u K hT hK => ?_) ?_
            · obtain ⟨hv, b, n, k, rfl, hsr⟩ := hT
              go_simp
              rw [conv_src hsr]
              go_simp
              exact hK _ hv
            simp only [Act.put, List.setIfInBounds_toArray, List.set_cons_zero, List.set_cons_succ]
            iterate 5 (
              refine lexF_step (by rfl) (fun h u K hT hK => ?_) ?_
              · (first
                  | (go_simp; exact hK _ hT)
                  | (go_simp; rw [HFr.out u (T.below hT)]; go_simp; exact hK _ hT))
              simp only [Act.put, List.setIfInBounds_toArray, List.set_cons_zero, List.set_cons_succ])
            refine lexE_step (v := .nilIface) (by rfl) (fun u K hT hK => ?_) ?_
            · go_simp
              have hv : RV w u g (some ⟨g3, 0, none⟩) m3 cap3 L ⟨m3, 0, 0⟩ := hT
              refine (end_c g (some ⟨g3, 0, none⟩) m3 cap3 ⟨m3, 0, 0⟩ u hv.rd (by omega)).mono ?_
              have hfin : (Rs.mk m3 0 0).fin m3 = ⟨m3, 0, 0⟩ := by
                unfold Rs.fin
                rw [if_neg]
                simp
              rw [hfin]
              rintro e u' ⟨v8, rfl, hor, hr, hg⟩
              obtain rfl : v8 = .nilIface := by
                rcases hor with h | h
                · exact h.2
                · exact absurd rfl h.1
              exact hK _ (hv.step hr hg)
            simp only [Act.put, List.setIfInBounds_toArray, List.set_cons_zero, List.set_cons_succ]
            iterate 4 (
              refine lexF_step (by rfl) (fun h u K hT hK => ?_) ?_
              · (go_simp; exact hK _ hT)
              simp only [Act.put, List.setIfInBounds_toArray, List.set_cons_zero, List.set_cons_succ])
            refine lexE_step (v := .int .i64 (m3 : Int)) (by rfl) (fun u K hT hK => ?_) ?_
            · go_simp
              have hv : RV w u g (some ⟨g3, 0, none⟩) m3 cap3 L ⟨m3, 0, 0⟩ := hT
              refine (at_c g (some ⟨g3, 0, none⟩) m3 cap3 ⟨m3, 0, 0⟩ u hv.rd).mono ?_
              rintro e u' ⟨rfl, rfl⟩
              exact hK _ hv
            simp only [Act.put, List.setIfInBounds_toArray, List.set_cons_zero, List.set_cons_succ]
            iterate 4 (
              refine lexF_step (by rfl) (fun h u K hT hK => ?_) ?_
              · (go_simp; exact hK _ hT)
              simp only [Act.put, List.setIfInBounds_toArray, List.set_cons_zero, List.set_cons_succ])
            refine lexD_nil (fun w6 hT6 => ?_)
            have HV6 : Hid (RV w w6 g (some ⟨g3, 0, none⟩) m3 cap3 L ⟨m3, 0, 0⟩) := hide hT6
            clear hT6 HT0 HT1 HFr
            by_cases hc1 : cut < 0
            · have d4 : decide (cut < 0) = true := by simp; omega
              go_wp2
              go_ret
              exact ⟨rfl, HV6.out.below⟩
            · have d4 : decide (cut < 0) = false := by simp; omega
              by_cases hc2 : (m3 : Int) ≤ cut
              · have d5 : decide ((m3 : Int) ≤ cut) = true := by simp; omega
                go_wp2
                go_ret
                exact ⟨rfl, HV6.out.below⟩
              · obtain ⟨k, rfl⟩ := Int.eq_ofNat_of_zero_le (a := cut) (by omega)
                have d5 : decide ((m3 : Int) ≤ (k : Int)) = false := by simp; omega
                have hkm : k < m3 := by omega
                have hkc : k ≤ cap3 := by omega
                go_wp2_with fail
                refine (read_c (some ⟨g3, 0, none⟩) k cap3 w6).mono ?_
                rintro e w7 ⟨rfl, rfl⟩
                have HV : Hid (RV w (w6.alloc (.cells #[.slice (some ⟨g3, 0, none⟩) k cap3, .int .i64 0, .int .i64 0, .int .i64 0] 87)) w6.heap.size (some ⟨g3, 0, none⟩) k cap3 (L.take k) ⟨0, 0, 0⟩) := hide (RV.read (c := cap3) (src_mid HV6.out.src 0 k (by omega)) HV6.out.below)
                generalize w6.alloc (.cells #[.slice (some ⟨g3, 0, none⟩) k cap3, .int .i64 0, .int .i64 0, .int .i64 0] 87) = w7 at *
                generalize w6.heap.size = gq at *
                clear HV6
                go_wp2_with fail
                generalize t = n at *
                have hkL : Hid (k ≤ L.length) := hide (by rw [HL.out]; simp only [List.length_append]; have := Hm3.out; have := HSm.out; omega)
                go_loopw [83] (fun j wr => ∃ (t : Nat) (s : Rs), j = .int .i64 (t : Int) ∧ t ≤ n ∧ RV w wr gq (some ⟨g3, 0, none⟩) k cap3 (L.take k) s ∧ Ok zs k t s) (fun j _ => n - (intOf j).toNat)
                case atStart => exact ⟨0, ⟨0, 0, 0⟩, rfl, by omega, HV.out, Nat.zero_le _, .inl rfl⟩
                case round =>
                  clear HV
                  obtain ⟨t, s, rfl, ht, hv, hok⟩ := hrel
                  have HV := hide hv
                  have HO := hide hok
                  have hat := hok.1
                  clear hv hok
                  by_cases htn : t < n
                  · have d6 : decide ((t : Int) < (n : Int)) = true := by simp; omega
                    go_wp2_with fail
                    refine (num_c gq (some ⟨g3, 0, none⟩) k cap3 (L.take k) s _ HV.out.rd HV.out.src hat hkc (by omega)).mono ?_
                    rintro e x6 ⟨rfl, hr, hg⟩
                    have HV6 := hide (HV.out.step hr hg)
                    have HO6 := hide (HO.out.num htn HL.out hkL.out)
                    clear hr hg HV HO
                    go_wp2
                    go_roundw
                    case rel => exact ⟨t + 1, _, by go_num, by omega, HV6.out, HO6.out⟩
                    case measure => simp [intOf]; omega
                  · have d6 : decide ((t : Int) < (n : Int)) = false := by simp; omega
                    obtain rfl : t = n := by omega
                    have HX := hide (HO.out.text HSm.out hl HL.out (by rw [← Hm3.out]; exact hkm))
                    clear HO
                    go_wp2_with fail
                    refine (text_c gq (some ⟨g3, 0, none⟩) k cap3 (L.take k) s _ HV.out.rd HV.out.src HV.out.apart (fun h => by cases h) hat hkc (by omega)).mono ?_
                    rintro e x7 ⟨v7, rfl, _, hr, hg⟩
                    have HV7 := hide (HV.out.step hr hg)
                    clear hr hg HV
                    generalize s.text (L.take k) = s1 at *
                    obtain ⟨p1, f1, e1⟩ := s1
                    obtain ⟨hx1, hx2⟩ := HX.out
                    simp only at hx1 hx2
                    subst hx1 hx2
                    clear HX
                    go_wp2_with fail
                    refine (err_c gq (some ⟨g3, 0, none⟩) k cap3 ⟨p1, (k : Int), 30⟩ x7 HV7.out.rd).mono ?_
                    intro e w8 hp
                    obtain ⟨v8, rfl, hi8, hb8⟩ := hp.isErr
                    have HI8 := hide hi8
                    have HV8 := hide (HV7.out.up hb8)
                    clear hp hi8 hb8 HV7
                    go_wp2_with fail
                    refine (number_c v8 _ _ w8 HI8.out (HV8.out.et HE.out)).mono ?_
                    rintro e w9 ⟨rfl, hb9⟩
                    have HV9 := hide (HV8.out.up hb9)
                    clear hb9 HV8 HI8
                    go_wp2_with fail
                    refine (err_c gq (some ⟨g3, 0, none⟩) k cap3 ⟨p1, (k : Int), 30⟩ w9 HV9.out.rd).mono ?_
                    intro e x1 hp
                    obtain ⟨v1, rfl, hi1, hb1⟩ := hp.isErr
                    have HI1 := hide hi1
                    have HV1 := hide (HV9.out.up hb1)
                    clear hp hi1 hb1 HV9
                    go_wp2_with fail
                    refine (place_c v1 _ _ x1 HI1.out (HV1.out.et HE.out)).mono ?_
                    rintro e x2 ⟨rfl, hb2⟩
                    have HV2 := hide (HV1.out.up hb2)
                    clear hb2 HV1 HI1
                    go_wp2
                    go_ret
                    exact ⟨rfl, HV2.out.below⟩
end Go.Proofs.YtjojckdoocbelaaDoor.CodeBackW
