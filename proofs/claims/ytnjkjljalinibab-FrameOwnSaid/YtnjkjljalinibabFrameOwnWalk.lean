/- FrameOwn's walk. -/
import Derived.Test.YtnjkjljalinibabFe
namespace Go.Proofs.Ytnjkjljalinibab.FrameOwnW
set_option linter.unusedVariables false
set_option linter.unusedSimpArgs false
open Go.ChangeShapes Go.WideShapes Go.ChangeAt Go.RowKit
open Go.Proofs.Ytnjkjljalinibab.Wu Go.Proofs.Ytnjkjljalinibab.Sm Go.Proofs.Ytnjkjljalinibab.Sh Go.Proofs.Ytnjkjljalinibab.Ba Go.Proofs.Ytnjkjljalinibab.Bp Go.Proofs.Ytnjkjljalinibab.Bq Go.Proofs.Ytnjkjljalinibab.Bz Go.Proofs.Ytnjkjljalinibab.Cm Go.Proofs.Ytnjkjljalinibab.Cn Go.Proofs.Ytnjkjljalinibab.Cr Go.Proofs.Ytnjkjljalinibab.Cs Go.Proofs.Ytnjkjljalinibab.Rk Go.Proofs.Ytnjkjljalinibab.Ct Go.Proofs.Ytnjkjljalinibab.Bs Go.Proofs.Ytnjkjljalinibab.Rm Go.Proofs.Ytnjkjljalinibab.Fa Go.Proofs.Ytnjkjljalinibab.Fb Go.Proofs.Ytnjkjljalinibab.Fc Go.Proofs.Ytnjkjljalinibab.Fd Go.Proofs.Ytnjkjljalinibab.Fe
attribute [local go_sem] kUpon_value kUpon_skip kUpon_enter
def Post (w : World) (e : Ending) (w' : World) : Prop := e = .returned (.bool true) ∧ Below w.heap.size w w'
theorem out_walk (fa sa : Option Addr) (fl fc sl sc : Nat) (w : World) (h : 500 < fl ∨ 500 < sl) (hf : fl ≤ 9223372036854775807) (hs : sl ≤ 9223372036854775807) :
    Calls Try.prog 6 #[.slice fa fl fc, .slice sa sl sc] w (Post w) := by
  have HC := hide (reads_c w)
  go_enter Try.func6, Try.ntmps6
  go_wp2_with fail
  refine HC.out.mono ?_
  rintro e w1 ⟨rfl, hb⟩
  have HB := hide hb
  clear hb HC
  by_cases h1 : 500 < fl
  · have d1 : decide ((500 : Int) < (fl : Int)) = true := by simp; omega
    have d1' : decide (500 < fl) = true := by simp; omega
    go_wp2
    go_ret
    exact ⟨rfl, HB.out⟩
  · have d1 : decide ((500 : Int) < (fl : Int)) = false := by simp; omega
    have d1' : decide (500 < fl) = false := by simp; omega
    have d2 : decide ((500 : Int) < (sl : Int)) = true := by simp; omega
    have d2' : decide (500 < sl) = true := by simp; omega
    go_wp2
    go_ret
    exact ⟨rfl, HB.out⟩
theorem dst_put {w : World} {g n cap : Nat} {L : List Nat} (hd : Dst w g n cap L) {i x : Nat} (hi : i < n) (hx : x < 256) : Dst (w.setCell ⟨g, i, none⟩ (.int .u8 (x : Int))) g n cap (L.set i x) := by
  have hth : w.there g i 1 := fun j hj => by
    obtain rfl : j = 0 := by omega
    exact ⟨by rw [Nat.add_zero, hd.cell hi]; rfl, hd.free _⟩
  have h1 := World.rangeAt_setCells_same w g i [.int .u8 (x : Int)] (by simpa using hth)
  have e : w.setCells g i [.int .u8 (x : Int)] = w.setCell ⟨g, i, none⟩ (.int .u8 (x : Int)) := rfl
  have hfr : ∀ o, (w.setCell ⟨g, i, none⟩ (.int .u8 (x : Int))).frozen? ⟨g, o, none⟩ = false := fun o => by rw [← e, World.frozen?_setCells]; exact hd.free o
  refine ⟨by rw [List.length_set, hd.len], ?_, hd.fit, hd.max, by simpa [World.setCell] using hd.lt, fun j v hv => ?_, fun j hj => ?_, hfr⟩
  · intro z hz
    rcases List.mem_or_eq_of_mem_set hz with h | h
    · exact hd.all z h
    · omega
  · have hj : j < (L.set i x).length := by
      have := (List.getElem?_eq_some_iff.1 hv).1
      simpa [b8] using this
    rw [List.length_set, hd.len] at hj
    by_cases hij : j = i
    · subst hij
      have h2 := h1 0 _ rfl
      rw [e, Nat.add_zero] at h2
      rw [Nat.zero_add, h2, ← hv]
      unfold b8
      simp [List.getElem?_map, hd.len, hj]
    · have hrow : w.rangeAt g j [v] := fun t u hu => by
        have ht : t = 0 := by
          have := (List.getElem?_eq_some_iff.1 hu).1
          simp only [List.length_cons, List.length_nil] at this
          omega
        subst ht
        obtain rfl : v = u := by simpa using hu
        rw [Nat.add_zero]
        have := hd.cells j v (by
          rw [← hv]
          unfold b8
          rw [List.getElem?_map, List.getElem?_map, List.getElem?_set_ne (by omega)])
        rwa [Nat.zero_add] at this
      have h2 := World.rangeAt_setCells_apart hrow g i [.int .u8 (x : Int)] (by right; simp only [List.length_cons, List.length_nil]; omega)
      rw [e] at h2
      have := h2 0 v rfl
      rwa [Nat.add_zero, show j = 0 + j by omega] at this
  · have h2 := World.there_setCells (b' := g) (o' := n) (n := cap - n) hd.spare g i [.int .u8 (x : Int)] j hj
    exact h2
set_option maxHeartbeats 3200000 in
set_option maxRecDepth 100000 in
theorem walk (fa sa : Option Addr) (fl fc sl sc : Nat) (F S : List Nat) (w : World) (hf : SrcB w fa fl F) (hfc : fl ≤ fc) (hfm : fc ≤ 9223372036854775807) (hfn : fa = none → fl = 0) (hs : SrcB w sa sl S) (hsc : sl ≤ sc) (hsm : sc ≤ 9223372036854775807) (hsn : sa = none → sl = 0) (h1 : fl ≤ 500) (h2 : sl ≤ 500) :
    Calls Try.prog 6 #[.slice fa fl fc, .slice sa sl sc] w (Post w) := by
  have HC := hide (reads_c w)
  have HF := hide hf
  have HS := hide hs
  clear hf hs
  have d1 : decide ((500 : Int) < (fl : Int)) = false := by simp; omega
  have d2 : decide ((500 : Int) < (sl : Int)) = false := by simp; omega
  go_enter Try.func6, Try.ntmps6
  go_wp2_with fail
  refine HC.out.mono ?_
  rintro e w1 ⟨rfl, hB1⟩
  have HB1 := hide hB1
  clear hB1 HC
  have HF1 := hide ((HF.out.below (w' := w1) HB1.out).below (below_new w1 (.cells #[] 5)))
  have HD0 : Hid (Dst (w1.alloc (.cells #[] 5)) w1.heap.size 0 0 []) := hide (dst_new w1 [] #[] 5 (0, 0) rfl (by intro x hx; cases hx) (by simp [maxLen]))
  go_wp2_with (refine wpList_append_dst rfl _ _ rfl w1.heap.size 0 0 [] fa fl fc F rfl rfl HD0.out HF1.out (by omega) hfn ?_)
  intro g cap w2 HD HG hgg HK
  refine of_hid ?_
  have hgN : w.heap.size ≤ g := by
    have := HB1.out.size
    rcases hgg with h | h
    · omega
    · omega
  have hb0 := HB1.out.alloc HB1.out.size (.cells #[] 5)
  have HB2 := hide (belowG hb0 HG.out HB1.out.size hb0.size)
  clear hb0 HG HK HD0 HF1 hgg
  have hFl := HF.out.1
  have hSl := HS.out.1
  go_wp2_with fail
  refine (append_ok 1 0 sa sl sc g fl cap F S w2 HD.out (HS.out.below HB2.out) hsn (by omega) (by omega) (by omega) (by omega) (by omega) hsc).mono ?_
  rintro e w3 ⟨g3, cap3, n3, rfl, hd3, hg3, hor3⟩
  have HB3 := hide (belowG HB2.out hg3 hgN HB2.out.size)
  have hg3N : w.heap.size ≤ g3 := by
    have := HB2.out.size
    rcases hor3 with rfl | h <;> omega
  have Hn3 : Hid (n3 = fl + (frL 1 0 S).length) := hide (by rw [← hd3.len, List.length_append, hFl])
  have hfr : (frL 1 0 S).length ≤ 600 := by
    have := numL_six S.length (by omega)
    unfold frL
    simp only [List.length_append, List.length_cons]
    omega
  have hfr0 : 0 < (frL 1 0 S).length := by unfold frL; simp
  obtain ⟨q, hq⟩ : ∃ q, q = (frL 1 0 S).length := ⟨_, rfl⟩
  rw [← hq] at hfr hfr0 Hn3
  have Hq := hide hq
  clear hq
  have hn3 := Hn3.out
  clear Hn3
  subst hn3
  have HD3 := hide hd3
  have hm3 := hd3.max
  have hf3 := hd3.fit
  unfold maxLen at hm3
  clear hd3 hg3 hor3 HD HB2
  have HV1 := hide (fun k => conv_src (cap := cap3) (src_front (w := w3.drewN k) HD3.out.src hFl))
  have HV2 := hide (fun k => conv_src (cap := fc) (show SrcB (w3.drewN k) fa fl F from HF.out.below (below_drewN HB3.out k)))
  have hfc3 : fl ≤ cap3 := by omega
  have hne3 : ¬ cap3 = fl := by omega
  have mixed : Try.prog.follows Departure.mixedOrders = true := by kernel_rfl
  go_wp2_with fail
  refine wp_region_keep (fun u => ∃ k, u = w3.drewN k) mixed (by kernel_rfl) ⟨1, rfl⟩ ?_
  repeat (first
    | (refine keep_step (v := ?_) (by rfl) (fun u K hS hK => ?_) ?_
       rotate_left
       · obtain ⟨nn, rfl⟩ := hS
         (go_simp; first
           | exact hK _ ⟨nn, rfl⟩
           | (rw [HV1.out nn]; go_simp; exact hK _ ⟨nn, rfl⟩)
           | (rw [HV2.out nn]; go_simp; exact hK _ ⟨nn, rfl⟩))
       simp only [Act.put, List.setIfInBounds_toArray, List.set_cons_zero, List.set_cons_succ]))
  refine keep_nil (fun w4 hS4 => ?_)
  obtain ⟨k4, rfl⟩ := hS4
  have HB4 := hide (below_drewN HB3.out k4)
  have HD4 : Hid (Dst (w3.drewN k4) g3 (fl + q) cap3 (F ++ frL 1 0 S)) := hide ⟨HD3.out.len, HD3.out.all, HD3.out.fit, HD3.out.max, HD3.out.lt, HD3.out.cells, HD3.out.spare, HD3.out.free⟩
  clear HD3 HB3 HV1 HV2
  generalize w3.drewN k4 = w4 at *
  have hw4 : g3 < w4.heap.size := HD4.out.lt
  have hsrc := src_drop (n := fl) HD4.out.src hFl (by omega)
  rw [show fl + q - fl = q by omega, Addr.add_mid, Nat.zero_add] at hsrc
  have HS4 := hide (hsrc.below (below_new w4 (.cells #[] 5)))
  have HD40 : Hid (Dst (w4.alloc (.cells #[] 5)) w4.heap.size 0 0 []) := hide (dst_new w4 [] #[] 5 (0, 0) rfl (by intro x hx; cases hx) (by simp [maxLen]))
  clear hsrc
  go_wp2_with (refine wpList_append_dst rfl _ _ rfl w4.heap.size 0 0 [] (some ⟨g3, fl, none⟩) q (cap3 - fl) (frL 1 0 S) rfl rfl HD40.out HS4.out (by omega) (fun h => by cases h) ?_)
  intro g5 cap5 w5 HD5 HG5 hgg5 HK5
  refine of_hid ?_
  have h4z := HB4.out.size
  have hg5 : w4.heap.size ≤ g5 := by
    rcases hgg5 with h | h
    · omega
    · omega
  have hb40 := HB4.out.alloc HB4.out.size (.cells #[] 5)
  have HB5 := hide (belowG hb40 HG5.out HB4.out.size hb40.size)
  clear hb40 HG5 HK5 HD40 HS4 hgg5 HD4
  have hm5 := HD5.out.max
  have hf5 := HD5.out.fit
  unfold maxLen at hm5
  go_wp2_with fail
  have hsrc5 : SrcB w5 (some ⟨g5, 0, none⟩) q (frL 1 0 S ++ []) := by rw [List.append_nil]; simpa using HD5.out.src
  refine (read_ok 1 0 S ⟨g5, 0, none⟩ q cap5 [] w5 hsrc5 (by omega) (by omega) (by omega) (by omega) (by omega) (by omega)).mono ?_
  clear hsrc5
  rintro e w6 ⟨g6, cap6, rfl, hg6, hd6, hb6⟩
  rw [hSl] at hd6 ⊢
  have HB6 := hide (keepB hb6 (Nat.le_refl _) HB5.out)
  have h5g := HD5.out.lt
  have HD56 := hide (HD5.out.below hb6 HD5.out.lt)
  have HD6 := hide hd6
  have h6z := hb6.size
  clear hd6 hb6 HD5 HB5 HB4
  have HF7 := hide (heap_last w6 (.cells #[.int .i64 1, .int .i64 0, .slice (some ⟨g6, 0, none⟩) sl cap6] 27))
  have HB7 := hide (keepB (below_new w6 (.cells #[.int .i64 1, .int .i64 0, .slice (some ⟨g6, 0, none⟩) sl cap6] 27)) (Nat.le_refl _) HB6.out)
  have HD7 := hide (HD56.out.below (below_new w6 (.cells #[.int .i64 1, .int .i64 0, .slice (some ⟨g6, 0, none⟩) sl cap6] 27)) HD56.out.lt)
  have HD67 := hide (HD6.out.below (below_new w6 (.cells #[.int .i64 1, .int .i64 0, .slice (some ⟨g6, 0, none⟩) sl cap6] 27)) HD6.out.lt)
  have h6g := HD6.out.lt
  go_wp2_with fail
  generalize w6.alloc (.cells #[.int .i64 1, .int .i64 0, .slice (some ⟨g6, 0, none⟩) sl cap6] 27) = w7 at *
  go_loopw [57, 11] (fun j _ wr => ∃ k L, j = .int .i64 ((k : Nat) : Int) ∧ k ≤ q ∧ Dst wr g5 q cap5 L ∧ w7.grownBy wr (some g5)) (fun j _ _ => q - (intOf j).toNat)
  case atStart => exact ⟨0, _, rfl, Nat.zero_le _, by simpa using HD7.out, World.grownBy.refl w7 _⟩
  case round =>
    obtain ⟨k, L, rfl, hk, hd, hg⟩ := hrel
    have HDr := hide hd
    have HGr := hide hg
    clear hd hg
    by_cases hlt : k < q
    · have hc := HDr.out.cell hlt
      have hz := HDr.out.free k
      have h8 := all8_getD HDr.out.all k
      have HP := hide (fun x (hx : x < 256) => dst_put HDr.out hlt hx)
      generalize L.getD k 0 = z at *
      go_wp2
      go_roundw
      case rel =>
        have hzx : ((z : Int) + 1) % 256 = (((z + 1) % 256 : Nat) : Int) := by omega
        rw [hzx]
        exact ⟨k + 1, _, by go_num, by omega, HP.out ((z + 1) % 256) (by omega), grown_setCell HGr.out k _⟩
      case measure => simp [intOf]; omega
    · obtain rfl : k = q := by omega
      have hFr := keepG HGr.out (show w6.heap.size ≠ g5 by omega) HF7.out
      have c2 : wr.cell? ⟨w6.heap.size, 2, none⟩ = some (.slice (some ⟨g6, 0, none⟩) sl cap6) := blk_cell hFr rfl
      have HBr := hide (belowG HB7.out HGr.out (by omega) HB7.out.size)
      have HVr := hide (conv_src (cap := cap6) (HD67.out.kept HGr.out (by omega)).src)
      have HVs := hide (conv_src (cap := sc) (HS.out.below HBr.out))
      clear hFr
      go_wp2_with fail
      rw [HVr.out]
      go_wp2_with fail
      rw [HVs.out]
      go_wp2
      go_ret
      exact ⟨rfl, HBr.out⟩
end Go.Proofs.Ytnjkjljalinibab.FrameOwnW
