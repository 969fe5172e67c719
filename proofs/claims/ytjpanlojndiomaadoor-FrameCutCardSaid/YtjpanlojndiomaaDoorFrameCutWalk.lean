/- FrameCut's walk. -/
import Derived.Test.YtjpanlojndiomaaDoorFe
import Derived.Test.YtjpanlojndiomaaDoorFk
import Derived.Test.YtjpanlojndiomaaDoorFp
import Derived.Laws.StructEq
namespace Go.Proofs.YtjpanlojndiomaaDoor.FrameCutW
set_option linter.unusedVariables false
set_option linter.unusedSimpArgs false
set_option maxRecDepth 100000
open Go.ChangeShapes Go.WideShapes Go.ChangeAt Go.RowKit
open Go.Proofs.YtjpanlojndiomaaDoor.Wu Go.Proofs.YtjpanlojndiomaaDoor.Sm Go.Proofs.YtjpanlojndiomaaDoor.Sh Go.Proofs.YtjpanlojndiomaaDoor.Ba Go.Proofs.YtjpanlojndiomaaDoor.Bp Go.Proofs.YtjpanlojndiomaaDoor.Bq Go.Proofs.YtjpanlojndiomaaDoor.Bs Go.Proofs.YtjpanlojndiomaaDoor.Cm Go.Proofs.YtjpanlojndiomaaDoor.Cr Go.Proofs.YtjpanlojndiomaaDoor.Cv Go.Proofs.YtjpanlojndiomaaDoor.Cw Go.Proofs.YtjpanlojndiomaaDoor.Er Go.Proofs.YtjpanlojndiomaaDoor.Eu Go.Proofs.YtjpanlojndiomaaDoor.Rk Go.Proofs.YtjpanlojndiomaaDoor.Fa Go.Proofs.YtjpanlojndiomaaDoor.Fb Go.Proofs.YtjpanlojndiomaaDoor.Fc Go.Proofs.YtjpanlojndiomaaDoor.Fd Go.Proofs.YtjpanlojndiomaaDoor.Fp Go.Proofs.YtjpanlojndiomaaDoor.Fh Go.Proofs.YtjpanlojndiomaaDoor.Fi Go.Proofs.YtjpanlojndiomaaDoor.Fk
attribute [local go_sem] kUpon_value kUpon_skip kUpon_enter
def Post (w : World) (e : Ending) (w' : World) : Prop := e = .returned (.bool true) ∧ Below w.heap.size w w'
/-- A frame that can't be. -/
theorem walk_bad (k s : Int) (a : Option Addr) (l c : Nat) (cut : Int) (ma : Option Addr) (ml mc : Nat) (w : World) (hl : l ≤ 9223372036854775807) (hk : chk k s l ≠ 0) :
    Calls Tryd.prog 5 #[.agg #[.int .i64 k, .int .i64 s, .slice a l c], .int .i64 cut, .slice ma ml mc] w (Post w) := by
  have HC := hide (fun u => Fe.reads_c u)
  have HF0 := hide (heap_last w (.cells #[.int .i64 k, .int .i64 s, .slice a l c] 25))
  have HAp := hide (fun u => append_bad k s a l c (.slice none 0 0) u hl hk)
  obtain ⟨z, hz⟩ : ∃ z, z = chk k s l := ⟨_, rfl⟩
  rw [← hz] at hk HAp
  clear hz
  have e1 : (z != 0) = true := by rw [bne_iff_ne]; exact hk
  clear hk
  go_enter Tryd.func5, Tryd.ntmps5
  go_wp2_with fail
  have HB0 := hide (below_new w (.cells #[.int .i64 k, .int .i64 s, .slice a l c] 25))
  refine (HC.out _).mono ?_
  rintro e w1 ⟨rfl, hb⟩
  have HB1 := hide (keepB hb (Nat.le_refl _) HB0.out)
  have HF1 := hide (below_blk hb (heap_lt HF0.out) HF0.out)
  clear hb HC HB0 HF0
  obtain ⟨c0, c1, c2, f0, f1, f2⟩ := blk3 HF1.out
  go_wp2_with fail
  refine (HAp.out w1).mono ?_
  rintro e w2 ⟨rfl, hb⟩
  have HB2 := hide (keepB hb (Nat.le_refl _) HB1.out)
  clear hb c0 c1 c2 f0 f1 f2 HF1 HB1
  go_wp2
  go_ret
  exact ⟨rfl, HB2.out⟩
/-- What is known while the two frames are compared. -/
structure S (w : World) (F G : Nat) (k s : Int) (a b : Option Addr) (l c l' c' : Nat) (D : List Nat) (u : World) : Prop where
  f : u.heap[F]? = some (.cells #[.int .i64 k, .int .i64 s, .slice a l c] 25 (0, 0))
  g : u.heap[G]? = some (.cells #[.int .i64 k, .int .i64 s, .slice b l' c'] 25 (0, 0))
  d : SrcB u a l D
  e : SrcB u b l' D
  b : Below w.heap.size w u
theorem S.up {w u u' : World} {F G : Nat} {k s : Int} {a b : Option Addr} {l c l' c' : Nat} {D : List Nat} (h : S w F G k s a b l c l' c' D u) (hb : Below u.heap.size u u') : S w F G k s a b l c l' c' D u' :=
  ⟨below_blk hb (heap_lt h.f) h.f, below_blk hb (heap_lt h.g) h.g, h.d.below hb, h.e.below hb, keepB hb (Nat.le_refl _) h.b⟩
set_option maxHeartbeats 3200000 in
theorem walk_ok (k s : Nat) (a : Option Addr) (l c : Nat) (D : List Nat) (cut : Int) (ma : Option Addr) (ml mc : Nat) (M : List Nat) (w : World) (he : Et w) (hs : SrcB w a l D) (hsn : a = none → l = 0) (hl : l ≤ 16384) (hlc : l ≤ c) (hk1 : 1 ≤ k) (hk2 : k ≤ 31) (hs2 : s ≤ 7) (hms : SrcB w ma ml M) (hmn : ma = none → ml = 0) (hml : ml ≤ 9223372036854775807) :
    Calls Tryd.prog 5 #[.agg #[.int .i64 (k : Int), .int .i64 (s : Int), .slice a l c], .int .i64 cut, .slice ma ml mc] w (Post w) := by
  have HC := hide (fun u => Fe.reads_c u)
  have HE := hide he
  have HS := hide hs
  have HM := hide hms
  have hDl := hs.1
  clear hs hms he
  have HF0 := hide (heap_last w (.cells #[.int .i64 (k : Int), .int .i64 (s : Int), .slice a l c] 25))
  have HB0 := hide (below_new w (.cells #[.int .i64 (k : Int), .int .i64 (s : Int), .slice a l c] 25))
  go_enter Tryd.func5, Tryd.ntmps5
  go_wp2_with fail
  refine (HC.out _).mono ?_
  rintro e w1 ⟨rfl, hb⟩
  have HB1 := hide (keepB hb (Nat.le_refl _) HB0.out)
  have HF1 := hide (below_blk hb (heap_lt HF0.out) HF0.out)
  clear hb HC HB0 HF0
  obtain ⟨c0, c1, c2, f0, f1, f2⟩ := blk3 HF1.out
  go_wp2_with fail
  refine (append_nil k s a l c D w1 (HS.out.below HB1.out) hsn hk1 hk2 hs2 hl hlc).mono ?_
  rintro e w2 ⟨v2, rfl, hbuf, hb⟩
  have HB2 := hide (keepB hb (Nat.le_refl _) HB1.out)
  have HF2 := hide (below_blk hb (heap_lt HF1.out) HF1.out)
  have h6 := numL_six D.length (by omega)
  have hfl : (frL k s D).length = 1 + (numL D.length).length + l := by unfold frL; simp; omega
  obtain ⟨g2, cap2, rfl, hg2, hd2⟩ : ∃ g2 cap2, v2 = .slice (some ⟨g2, 0, none⟩) (frL k s D).length cap2 ∧ w1.heap.size ≤ g2 ∧ Dst w2 g2 (frL k s D).length cap2 (frL k s D) := by
    rcases hbuf with ⟨_, h⟩ | h
    · exfalso
      have := congrArg List.length h
      rw [hfl] at this
      simp at this
    · exact h
  have HD2 := hide hd2
  have hbc := hd2.fit
  have hbm := hd2.max
  unfold maxLen at hbm
  have hcut := fun n hn => read_cut k s D n hk1 hk2 hs2 (by omega) hn
  have Hcut := hide hcut
  have HRd := hide (fun (ad : Addr) (m c : Nat) (R : List Nat) (u : World) (h1 : SrcB u (some ad) m (frL k s D ++ R)) (h2 : m ≤ c) (h3 : m ≤ 281474976710656) => read_ok k s D ad m c R u h1 h2 h3 hk1 hk2 hs2 (by omega))
  have h1s := HB1.out.size
  clear hb HB1 HF1 c0 c1 c2 f0 f1 f2 hbuf hd2 hcut
  obtain ⟨q, hq⟩ : ∃ q, q = (frL k s D).length := ⟨_, rfl⟩
  rw [← hq] at hfl hbc HD2 Hcut ⊢
  have Hq := hide hq
  have hq1 : q ≤ 17000 := by omega
  have hq2 : 2 ≤ q := by have := numL_pos D.length; omega
  clear hq hfl h6
  have hbm' : cap2 ≤ 9223372036854775807 := by omega
  clear hbm
  by_cases hmore : 100 < ml
  · have d1 : decide ((100 : Int) < (ml : Int)) = true := by simp; omega
    have d1' : decide (100 < ml) = true := by simp; omega
    go_wp2
    go_ret
    exact ⟨rfl, HB2.out⟩
  · have d1 : decide ((100 : Int) < (ml : Int)) = false := by simp; omega
    have d1' : decide (100 < ml) = false := by simp; omega
    have hw2 : w.heap.size < w2.heap.size := heap_lt HF2.out
    have hg2w : w.heap.size ≤ g2 := by
      have := HB2.out.size
      omega
    have hb20 := below_new w2 (.cells #[] 5)
    have HE0 : Hid (Dst (w2.alloc (.cells #[] 5)) w2.heap.size 0 0 []) := hide (dst_new w2 [] #[] 5 (0, 0) rfl (by intro x hx; cases hx) (by simp [maxLen]))
    have HS2 := hide ((HD2.out.below hb20 HD2.out.lt).src)
    have HB20 := hide (keepB hb20 (Nat.le_refl _) HB2.out)
    have hbase := HB2.out.size
    have hg2lt := HD2.out.lt
    go_wp2_with (refine wpList_append_dst rfl (.tmp 27) (.tmp 28) rfl w2.heap.size 0 0 [] (some ⟨g2, 0, none⟩) q cap2 (frL k s D) rfl rfl HE0.out HS2.out (by omega) (fun h => by cases h) ?_)
    intro g3 cap3 w3 HD3 HG3 hgg3 HK3
    refine of_hid ?_
    have hg3 : w2.heap.size ≤ g3 := by
      rcases hgg3 with h | h
      · omega
      · omega
    have HB3 := hide (belowG HB20.out HG3.out hbase HB20.out.size)
    have HM3 := hide (HM.out.below HB3.out)
    have HF3 := hide (keepG HG3.out (by omega) (heap_old HF2.out (.cells #[] 5)))
    have HDb3 := hide ((HD2.out.below hb20 HD2.out.lt).kept HG3.out (by have := HD2.out.lt; omega))
    clear hb20 HE0 HS2 HB20 HG3 HK3 hgg3
    have hlt3 := HDb3.out.lt
    go_wp2_with (refine wpList_append_dst rfl (.tmp 29) (.tmp 30) rfl g3 q cap3 (frL k s D) ma ml mc M rfl rfl HD3.out HM3.out (by omega) hmn ?_)
    intro g4 cap4 w4 HD4 HG4 hgg4 HK4
    refine of_hid ?_
    have hz3 := HB3.out.size
    have HB4 := hide (belowG HB3.out HG4.out (by omega) HB3.out.size)
    have HF4 := hide (keepG HG4.out (by omega) HF3.out)
    have HDb4 := hide (HDb3.out.kept HG4.out (by omega))
    have HS4 := hide HD4.out.src
    have hm4 := HD4.out.fit
    have hm4' := HD4.out.max
    unfold maxLen at hm4'
    clear hg2lt HB3 HF3 HDb3 HG4 HK4 HD3 HM3 HD4 hgg4 HB2 HF2 HD2
    go_wp2_with fail
    refine (HRd.out ⟨g4, 0, none⟩ (q + ml) cap4 M w4 HS4.out hm4 (by omega)).mono ?_
    rintro e w5 ⟨g5, cap5, rfl, hg5, hd5, hb5⟩
    rw [← Hq.out, hDl]
    rw [hDl] at hd5
    have HB5 := hide (keepB hb5 (Nat.le_refl _) HB4.out)
    have HF5 := hide (below_blk hb5 (heap_lt HF4.out) HF4.out)
    have HDb5 := hide (HDb4.out.below hb5 HDb4.out.lt)
    have HS5 := hide hd5.src
    clear hb5 hd5 HB4 HF4 HDb4 HS4 HRd
    have hb6 := below_new w5 (.cells #[.int .i64 (k : Int), .int .i64 (s : Int), .slice (some ⟨g5, 0, none⟩) l cap5] 25)
    have HX0 : Hid (S w w.heap.size w5.heap.size (k : Int) (s : Int) a (some ⟨g5, 0, none⟩) l c l cap5 D (w5.alloc (.cells #[.int .i64 (k : Int), .int .i64 (s : Int), .slice (some ⟨g5, 0, none⟩) l cap5] 25)).drew) :=
      hide (S.up ⟨heap_old HF5.out _, heap_last _ _, HS.out.below (keepB hb6 (Nat.le_refl _) HB5.out), HS5.out.below hb6, keepB hb6 (Nat.le_refl _) HB5.out⟩ (Below.refl _ _).drew)
    have HDb6 := hide (HDb5.out.below hb6 HDb5.out.lt)
    go_wp2_with fail
    generalize w5.alloc (.cells #[.int .i64 (k : Int), .int .i64 (s : Int), .slice (some ⟨g5, 0, none⟩) l cap5] 25) = w6 at *
    generalize w5.heap.size = G at *
    clear hb6 HB5 HF5 HDb5 HS5
    have mixed : Tryd.prog.follows Departure.mixedOrders = true := by kernel_rfl
    have HP1 := hide (fun u (hu : S w w.heap.size G (k : Int) (s : Int) a (some ⟨g5, 0, none⟩) l c l cap5 D u ∧ Dst u g2 q cap2 (frL k s D)) => plain_c (k : Int) (s : Int) a l c D u hu.1.d)
    have HP2 := hide (fun u (hu : S w w.heap.size G (k : Int) (s : Int) a (some ⟨g5, 0, none⟩) l c l cap5 D u ∧ Dst u g2 q cap2 (frL k s D)) => plain_c (k : Int) (s : Int) (some ⟨g5, 0, none⟩) l cap5 D u hu.1.e)
    refine wp_region_keep (fun u => S w w.heap.size G (k : Int) (s : Int) a (some ⟨g5, 0, none⟩) l c l cap5 D u ∧ Dst u g2 q cap2 (frL k s D)) mixed (by kernel_rfl) ⟨HX0.out, HDb6.out.drew⟩ ?_
    repeat (first
      | (refine keep_step (v := ?_) (by rfl) (fun u K hS hK => ?_) ?_
         rotate_left
         · obtain ⟨c0, c1, c2, f0, f1, f2⟩ := blk3 hS.1.f
           obtain ⟨e0, e1, e2, z0, z1, z2⟩ := blk3 hS.1.g
           (go_simp; first
             | exact hK _ hS
             | (go_at_call 16; with_reducible refine Calls.mono (HP1.out u hS) ?_; rintro e u2 ⟨rfl, hb⟩; exact hK _ ⟨hS.1.up hb, hS.2.below hb hS.2.lt⟩)
             | (go_at_call 16; with_reducible refine Calls.mono (HP2.out u hS) ?_; rintro e u2 ⟨rfl, hb⟩; exact hK _ ⟨hS.1.up hb, hS.2.below hb hS.2.lt⟩))
         simp only [Act.put, List.setIfInBounds_toArray, List.set_cons_zero, List.set_cons_succ]))
    refine keep_nil (fun w7 hS7 => ?_)
    have HB7 := hide hS7.1.b
    have HD7 := hide hS7.2
    clear hS7 HX0 HP1 HP2 HDb6
    by_cases hcl : cut < 0
    · have e1 : decide (cut < 0) = true := by simp; omega
      go_wp2
      go_ret
      exact ⟨rfl, HB7.out⟩
    · have e1 : decide (cut < 0) = false := by simp; omega
      by_cases hcq : (q : Int) ≤ cut
      · have e2 : decide ((q : Int) ≤ cut) = true := by simp; omega
        go_wp2
        go_ret
        exact ⟨rfl, HB7.out⟩
      · obtain ⟨n, rfl⟩ := Int.eq_ofNat_of_zero_le (a := cut) (by omega)
        have e2 : decide ((q : Int) ≤ (n : Int)) = false := by simp; omega
        have hn : n < q := by omega
        have hnc : n ≤ cap2 := by omega
        have HRc := hide (read_any (some ⟨g2, 0, none⟩) n cap2 ((frL k s D).take n) w7 (src_mid HD7.out.src 0 n (by omega)) hnc (by omega))
        go_wp2_with fail
        refine HRc.out.mono ?_
        rintro e w8 ⟨hb8, hR⟩
        rw [Hcut.out n hn] at hR
        obtain ⟨v, rfl, hf⟩ := hR
        have HB8 := hide (keepB hb8 (Nat.le_refl _) HB7.out)
        have HI8 := hide hf.isErr
        clear HRc HB7 hb8 hf HD7 Hcut
        go_wp2_with fail
        refine (Eu.number_c v 30 (n : Int) w8 HI8.out (HE.out.below HB8.out (Nat.le_refl _))).mono ?_
        rintro e w9 ⟨rfl, hb9⟩
        have HB9 := hide (keepB hb9 (Nat.le_refl _) HB8.out)
        have HI9 := hide (HI8.out.below hb9)
        clear hb9 HB8 HI8
        go_wp2_with fail
        refine (Eu.place_c v 30 (n : Int) w9 HI9.out (HE.out.below HB9.out (Nat.le_refl _))).mono ?_
        rintro e wx ⟨rfl, hbx⟩
        have HBx := hide (keepB hbx (Nat.le_refl _) HB9.out)
        clear hbx HB9 HI9
        go_wp2
        go_ret
        exact ⟨rfl, HBx.out⟩
end Go.Proofs.YtjpanlojndiomaaDoor.FrameCutW
