/- CodeReads' walk. -/
import Derived.Test.YtjojckdoocbelaaDoorCl
import Derived.Test.YtjojckdoocbelaaDoorRd
import Derived.Test.YtjojckdoocbelaaDoorSe
import Derived.Deep.CutBlock
import Derived.Deep.DeepCutAuto
namespace Go.Proofs.YtjojckdoocbelaaDoor.CodeReadsW
set_option linter.unusedVariables false
set_option linter.unusedSimpArgs false
set_option maxRecDepth 100000
open Go.ChangeShapes Go.WideShapes Go.ChangeAt Go.RowKit
open Go.Proofs.YtjojckdoocbelaaDoor.Wu Go.Proofs.YtjojckdoocbelaaDoor.Sm Go.Proofs.YtjojckdoocbelaaDoor.Sh Go.Proofs.YtjojckdoocbelaaDoor.Ba Go.Proofs.YtjojckdoocbelaaDoor.Bp Go.Proofs.YtjojckdoocbelaaDoor.Bs Go.Proofs.YtjojckdoocbelaaDoor.Cr Go.Proofs.YtjojckdoocbelaaDoor.Cl Go.Proofs.YtjojckdoocbelaaDoor.Er Go.Proofs.YtjojckdoocbelaaDoor.Eu Go.Proofs.YtjojckdoocbelaaDoor.Cv Go.Proofs.YtjojckdoocbelaaDoor.Cw Go.Proofs.YtjojckdoocbelaaDoor.Cx Go.Proofs.YtjojckdoocbelaaDoor.Cz Go.Proofs.YtjojckdoocbelaaDoor.Ra Go.Proofs.YtjojckdoocbelaaDoor.Rb Go.Proofs.YtjojckdoocbelaaDoor.Rq Go.Proofs.YtjojckdoocbelaaDoor.Rc Go.Proofs.YtjojckdoocbelaaDoor.Rd Go.Proofs.YtjojckdoocbelaaDoor.Rk
attribute [local go_sem] kUpon_value kUpon_skip kUpon_enter
def Post (w : World) (e : Ending) (w' : World) : Prop := e = .returned (.bool true) ∧ Below w.heap.size w w'
/-- The two readers: the program's in block g, the reference's in block B. -/
structure St (w : World) (g B : Nat) (a : Option Addr) (m c : Nat) (L : List Nat) (s : Rs) (at_ bad : Int) (wr : World) : Prop where
  v : RV w wr g a m c L s
  q : wr.heap[B]? = some (.cells #[.string (strN L), .int .i64 at_, .int .i64 s.fe, .int .i64 bad] 44 (0, 0))
  h0 : s.fe = 0 → at_ = (s.at_ : Int)
  h1 : s.fe ≠ 0 → bad = s.fa
  new : w.heap.size ≤ B
  ne : B ≠ g
  fit : s.at_ ≤ m
section
variable {w wr w' : World} {g B : Nat} {a : Option Addr} {m c : Nat} {L : List Nat} {s s' : Rs} {at_ bad : Int}
theorem St.up (h : St w g B a m c L s at_ bad wr) (hb : Below wr.heap.size wr w') : St w g B a m c L s at_ bad w' :=
  ⟨h.v.up hb, below_blk hb (heap_lt h.q) h.q, h.h0, h.h1, h.new, h.ne, h.fit⟩
theorem St.qof (h : St w g B a m c L s at_ bad wr) : Qof L s (qv L at_ s.fe bad) := ⟨_, _, rfl, h.h0, h.h1⟩
theorem St.et (h : St w g B a m c L s at_ bad wr) (he : Et w) : Et wr := h.v.et he
end
theorem St.drew {w wr : World} {g B : Nat} {a : Option Addr} {m c : Nat} {L : List Nat} {s : Rs} {at_ bad : Int} (h : St w g B a m c L s at_ bad wr) : St w g B a m c L s at_ bad wr.drew := h.up (Below.refl _ _).drew
theorem St.kept {w wr w' : World} {g B k : Nat} {a : Option Addr} {m c : Nat} {L : List Nat} {s : Rs} {at_ bad : Int} (h : St w g B a m c L s at_ bad wr) (hg : wr.grownBy w' (some k)) (h1 : g ≠ k) (h2 : B ≠ k) (h3 : w.heap.size ≤ k) (hab : ∀ ad, a = some ad → 0 < m → ad.block < w.heap.size) : St w g B a m c L s at_ bad w' :=
  ⟨⟨keepG hg h1 h.v.rd, src_kept h.v.src hg (fun ad e h0 => by have := hab ad e h0; omega), belowG h.v.below hg h3 h.v.below.size, h.v.new, h.v.apart⟩, keepG hg h2 h.q, h.h0, h.h1, h.new, h.ne, h.fit⟩
/-- Where the walk through the comparison of two sums is. -/
def stage3 (w : World) (g B : Nat) (a : Option Addr) (m c : Nat) (L : List Nat) (s s1 : Rs) (at_ bad : Int) (u : World) : List Value → Prop
  | [] => St w g B a m c L s at_ bad u
  | _ => RV w u g a m c L s1 ∧ u.heap[B]? = some (.cells #[.string (strN L), .int .i64 at_, .int .i64 s.fe, .int .i64 bad] 44 (0, 0))
structure T3 (w : World) (g B : Nat) (a : Option Addr) (m c : Nat) (L : List Nat) (s s1 : Rs) (at_ bad at1 bad1 : Int) (N : Nat) (X : List Nat) (h : List Value) (u : World) : Prop where
  z : u.heap[N + 1]? = some (.cells (u8s X) 27 (0, 0))
  mm : u.heap[N]? = some (.cells #[.string (strN L), .int .i64 at1, .int .i64 s1.fe, .int .i64 bad1] 44 (0, 0))
  stage : stage3 w g B a m c L s s1 at_ bad u h
theorem byte_fit (s : Rs) (L : List Nat) (h : s.at_ ≤ L.length) : (s.byte L).at_ ≤ L.length := by
  unfold Rs.byte Rs.has
  by_cases hc : s.fe = 0 ∧ L.length < s.at_ + 1
  · rw [if_pos hc, if_neg (by simp)]; exact h
  · rw [if_neg hc]
    split <;> first | (simp only; omega) | omega
theorem byteV_lt (s : Rs) (L : List Nat) (h8 : All8 L) : s.byteV L < 256 := by
  unfold Rs.byteV
  split
  · exact all8_getD h8 _
  · omega
theorem text_fit (s : Rs) (L : List Nat) (h : s.at_ ≤ L.length) : (s.text L).at_ ≤ L.length := by
  unfold Rs.text
  split
  · rename_i hp
    have := Rs.pre_fits s L hp
    rw [Rs.pre_at]
    exact this.1
  · exact h
theorem sum_fit (s : Rs) (L : List Nat) (h : s.at_ ≤ L.length) : (s.sum L).at_ ≤ L.length := by
  unfold Rs.sum Rs.has
  by_cases hc : s.fe = 0 ∧ L.length < s.at_ + 32
  · rw [if_pos hc, if_neg (by simp)]; exact h
  · rw [if_neg hc]
    split <;> first | (simp only; omega) | omega
theorem fin_fit (s : Rs) (m : Nat) (h : s.at_ ≤ m) : (s.fin m).at_ ≤ m := by
  unfold Rs.fin
  split <;> exact h
theorem sumV_len (s : Rs) (L : List Nat) (h : s.at_ ≤ L.length) : (s.sumV L).length = 32 := by
  unfold Rs.sumV
  by_cases hc : s.fe = 0 ∧ L.length < s.at_ + 32
  · unfold Rs.has; rw [if_pos hc, if_neg (by simp)]; exact zeros_length 32
  · unfold Rs.has
    rw [if_neg hc]
    split
    · rw [List.length_take, List.length_drop]; omega
    · exact zeros_length 32
/-- The reference's reader takes its next value. -/
theorem St.move {w wr : World} {g B : Nat} {a : Option Addr} {m c : Nat} {L : List Nat} {s : Rs} {x y z t : Value} (at_ bad : Int) (v : RV w wr g a m c L s) (q : wr.heap[B]? = some (.cells #[x, y, z, t] 44 (0, 0))) (h0 : s.fe = 0 → at_ = (s.at_ : Int)) (h1 : s.fe ≠ 0 → bad = s.fa) (new : w.heap.size ≤ B) (ne : B ≠ g) (fit : s.at_ ≤ m) (hab : ∀ ad, a = some ad → 0 < m → ad.block ≠ B) :
    St w g B a m c L s at_ bad ((((wr.setCell ⟨B, 0, none⟩ (.string (strN L))).setCell ⟨B, 1, none⟩ (.int .i64 at_)).setCell ⟨B, 2, none⟩ (.int .i64 s.fe)).setCell ⟨B, 3, none⟩ (.int .i64 bad)) := by
  have hg := grown4 wr B (.string (strN L)) (.int .i64 at_) (.int .i64 s.fe) (.int .i64 bad)
  exact ⟨⟨keepG hg (Ne.symm ne) v.rd, src_kept v.src hg hab, belowG v.below hg new v.below.size, v.new, v.apart⟩, set4 q _ _ _ _, h0, h1, new, ne, fit⟩
theorem out_walk (a b : Option Addr) (m c n d : Nat) (w : World) (h : 6000 < m ∨ 60 < n) (hm : m ≤ 9223372036854775807) (hn : n ≤ 9223372036854775807) :
    Calls Tryd.prog 8 #[.slice a m c, .slice b n d] w (Post w) := by
  have HC := hide (reads_c w)
  go_enter Tryd.func8, Tryd.ntmps8
  go_wp2_with fail
  refine HC.out.mono ?_
  rintro e w1 ⟨rfl, hb⟩
  have HB := hide hb
  clear hb HC
  by_cases h1 : 6000 < m
  · have d1 : decide ((6000 : Int) < (m : Int)) = true := by simp; omega
    have d1' : decide (6000 < m) = true := by simp; omega
    go_wp2
    go_ret
    exact ⟨rfl, HB.out⟩
  · have d1 : decide ((6000 : Int) < (m : Int)) = false := by simp; omega
    have d1' : decide (6000 < m) = false := by simp; omega
    have d2 : decide ((60 : Int) < (n : Int)) = true := by simp; omega
    have d2' : decide (60 < n) = true := by simp; omega
    go_wp2
    go_ret
    exact ⟨rfl, HB.out⟩
set_option maxHeartbeats 6400000 in
theorem walk (a : Option Addr) (m c : Nat) (L : List Nat) (b : Option Addr) (n d : Nat) (zs : List Int) (w : World) (he : Et w) (hs : SrcB w a m L) (hmc : m ≤ c) (hnil : a = none → m = 0) (hm : m ≤ 6000) (hn : n ≤ 60)
    (hz : 0 < n → ∃ xb xo, b = some ⟨xb, xo, none⟩ ∧ ∀ i, i < n → w.cell? ⟨xb, xo + i, none⟩ = some (.int .i64 (zs.getD i 0))) :
    Calls Tryd.prog 8 #[.slice a m c, .slice b n d] w (Post w) := by
  have HC := hide (reads_c w)
  have HE := hide he
  have HS := hide hs
  have HZ := hide hz
  have hLm := hs.1
  have H8 := hide hs.2.1
  have HAB : Hid (∀ ad, a = some ad → 0 < m → ad.block < w.heap.size) := fun ad e h0 => by
    obtain ⟨_, _, b0, off, ha, hc⟩ := hs
    have h1 := ha h0
    rw [h1] at e
    injection e with e
    subst e
    exact cell_lt (hc 0 h0)
  clear hs he hz
  have d1 : decide ((6000 : Int) < (m : Int)) = false := by simp; omega
  have d2 : decide ((60 : Int) < (n : Int)) = false := by simp; omega
  go_enter Tryd.func8, Tryd.ntmps8
  go_wp2_with fail
  refine HC.out.mono ?_
  rintro e w1 ⟨rfl, hb⟩
  have HB := hide hb
  clear hb HC
  go_wp2_with fail
  refine (read_c a m c w1).mono ?_
  rintro e w2 ⟨rfl, rfl⟩
  have HV := hide (RV.read (c := c) (HS.out.below HB.out) HB.out)
  have HCV := hide (conv_src (cap := c) HV.out.src)
  have hg1 := heap_lt HV.out.rd
  generalize w1.alloc (.cells #[.slice a m c, .int .i64 0, .int .i64 0, .int .i64 0] 87) = w2 at *
  generalize w1.heap.size = g at *
  have hcv := HCV.out
  go_wp2_with fail
  have HST : Hid (St w g w2.heap.size a m c L ⟨0, 0, 0⟩ 0 0 (w2.alloc (.cells #[.string (strN L), .int .i64 0, .int .i64 0, .int .i64 0] 44))) :=
    hide ⟨HV.out.up (below_new _ _), heap_last _ _, fun _ => rfl, fun _ => rfl, HV.out.below.size, by omega, by simp⟩
  generalize w2.alloc (.cells #[.string (strN L), .int .i64 0, .int .i64 0, .int .i64 0] 44) = w3 at *
  generalize w2.heap.size = B at *
  clear hcv HCV HV HB HS d1 d2 hg1
  go_loopw [36] (fun j wr => ∃ (t : Nat) (s : Rs) (at_ bad : Int), j = .int .i64 (t : Int) ∧ t ≤ n ∧ St w g B a m c L s at_ bad wr) (fun j _ => n - (intOf j).toNat)
  case atStart => exact ⟨0, _, _, _, rfl, by omega, HST.out⟩
  case round =>
    clear HST
    obtain ⟨t, s, at_, bad, rfl, ht, hst⟩ := hrel
    have HS := hide hst
    clear hst
    by_cases htn : t < n
    · have d1 : decide ((t : Int) < (n : Int)) = true := by simp; omega
      obtain ⟨xb, xo, rfl, hx⟩ := HZ.out (by omega)
      have hx' := keepC HS.out.v.below (Nat.le_refl _) (hx t htn)
      clear hx
      generalize zs.getD t 0 = kz at *
      have hfit := HS.out.fit
      have hfitL : s.at_ ≤ L.length := by omega
      obtain ⟨c0, c1, c2, c3, f0, f1, f2, f3⟩ := blk4 HS.out.q
      have hgB := HS.out.ne
      go_upto_block 2 with (fail)
      go_cut [18] (fun u18 wx => ∃ (s1 : Rs) (at1 bad1 : Int), St w g B a m c L s1 at1 bad1 wx)
      case first =>
        by_cases k0 : kz = 0
        · subst k0
          go_wp2_with fail
          refine (byte_q L s _ wr H8.out (by omega) hfitL HS.out.qof).mono ?_
          rintro e x1 ⟨v1, rfl, ⟨at1, bad1, rfl, p0, p1⟩, hb1⟩
          have HS1 := hide (HS.out.up hb1)
          clear hb1 HS c0 c1 c2 c3 f0 f1 f2 f3
          go_wp2_with fail
          have HS2 := hide (HS1.out.up (below_new x1 (.cells #[.string (strN L), .int .i64 at1, .int .i64 (s.byte L).fe, .int .i64 bad1] 44)))
          have HM2 := hide (heap_last x1 (.cells #[.string (strN L), .int .i64 at1, .int .i64 (s.byte L).fe, .int .i64 bad1] 44))
          have hNB := heap_lt HS1.out.v.rd
          have hBB := heap_lt HS1.out.q
          generalize x1.alloc (.cells #[.string (strN L), .int .i64 at1, .int .i64 (s.byte L).fe, .int .i64 bad1] 44) = x2 at *
          generalize x1.heap.size = N at *
          clear HS1
          refine (byte_c g a m c L s x2 HS2.out.v.rd HS2.out.v.src HS2.out.v.apart hfit hmc (by omega)).mono ?_
          rintro e x3 ⟨rfl, hr, hg⟩
          have HV3 := hide (HS2.out.v.step hr hg)
          have HQ3 := hide (keepG hg hgB HS2.out.q)
          have HM3 := hide (keepG hg (by omega) HM2.out)
          have hnew := HS2.out.new
          have hbv := byteV_lt s L H8.out
          have P0 := hide p0
          have P1 := hide p1
          have HF := hide (byte_fit s L hfitL)
          clear hr hg HS2 HM2 p0 p1
          generalize s.byteV L = bv at *
          generalize s.byte L = s1 at *
          obtain ⟨c0, c1, c2, c3, f0, f1, f2, f3⟩ := blk4 HQ3.out
          obtain ⟨r0, r1, r2, r3, g0, g1, g2, g3⟩ := blk4 HM3.out
          have hbe : ((bv : Int) != (bv : Int)) = false := by simp
          go_wp2_with fail
          have HS4 := hide (St.move at1 bad1 HV3.out HQ3.out P0.out P1.out hnew hgB (by rw [← hLm]; exact HF.out) (fun ad e h0 => by have := HAB.out ad e h0; omega))
          generalize ((((x3.setCell ⟨B, 0, none⟩ (.string (strN L))).setCell ⟨B, 1, none⟩ (.int .i64 at1)).setCell ⟨B, 2, none⟩ (.int .i64 s1.fe)).setCell ⟨B, 3, none⟩ (.int .i64 bad1)) = x4 at *
          go_meet
          exact ⟨_, _, _, HS4.out⟩
        have e0 : (kz == 0) = false := by simp [k0]
        by_cases k1 : kz = 1
        · subst k1
          go_wp2_with fail
          refine (num_q L s _ wr H8.out (by omega) hfitL HS.out.qof).mono ?_
          rintro e x1 ⟨v1, rfl, ⟨at1, bad1, rfl, p0, p1⟩, hb1⟩
          have HS1 := hide (HS.out.up hb1)
          clear hb1 HS c0 c1 c2 c3 f0 f1 f2 f3
          go_wp2_with fail
          have HS2 := hide (HS1.out.up (below_new x1 (.cells #[.string (strN L), .int .i64 at1, .int .i64 (s.num L).fe, .int .i64 bad1] 44)))
          have HM2 := hide (heap_last x1 (.cells #[.string (strN L), .int .i64 at1, .int .i64 (s.num L).fe, .int .i64 bad1] 44))
          have hNB := heap_lt HS1.out.v.rd
          have hBB := heap_lt HS1.out.q
          generalize x1.alloc (.cells #[.string (strN L), .int .i64 at1, .int .i64 (s.num L).fe, .int .i64 bad1] 44) = x2 at *
          generalize x1.heap.size = N at *
          clear HS1
          refine (num_c g a m c L s x2 HS2.out.v.rd HS2.out.v.src hfit hmc (by omega)).mono ?_
          rintro e x3 ⟨rfl, hr, hg⟩
          have HV3 := hide (HS2.out.v.step hr hg)
          have HQ3 := hide (keepG hg hgB HS2.out.q)
          have HM3 := hide (keepG hg (by omega) HM2.out)
          have hnew := HS2.out.new
          have hbv := Rs.numV_max s L
          have P0 := hide p0
          have P1 := hide p1
          have HF := hide ((Rs.num_at s L hfitL).1)
          clear hr hg HS2 HM2 p0 p1
          generalize s.numV L = bv at *
          generalize s.num L = s1 at *
          obtain ⟨c0, c1, c2, c3, f0, f1, f2, f3⟩ := blk4 HQ3.out
          obtain ⟨r0, r1, r2, r3, g0, g1, g2, g3⟩ := blk4 HM3.out
          have hbe : ((bv : Int) != (bv : Int)) = false := by simp
          go_wp2_with fail
          have HS4 := hide (St.move at1 bad1 HV3.out HQ3.out P0.out P1.out hnew hgB (by rw [← hLm]; exact HF.out) (fun ad e h0 => by have := HAB.out ad e h0; omega))
          generalize ((((x3.setCell ⟨B, 0, none⟩ (.string (strN L))).setCell ⟨B, 1, none⟩ (.int .i64 at1)).setCell ⟨B, 2, none⟩ (.int .i64 s1.fe)).setCell ⟨B, 3, none⟩ (.int .i64 bad1)) = x4 at *
          go_meet
          exact ⟨_, _, _, HS4.out⟩
        have e1 : (kz == 1) = false := by simp [k1]
        by_cases k2 : kz = 2
        · subst k2
          go_wp2_with fail
          refine (piece_q L s _ wr H8.out (by omega) hfitL HS.out.qof).mono ?_
          rintro e x1 ⟨v1, rfl, ⟨at1, bad1, rfl, p0, p1⟩, hb1⟩
          have HS1 := hide (HS.out.up hb1)
          clear hb1 HS c0 c1 c2 c3 f0 f1 f2 f3
          go_wp2_with fail
          have HS2 := hide (HS1.out.up (below_new x1 (.cells #[.string (strN L), .int .i64 at1, .int .i64 (s.text L).fe, .int .i64 bad1] 44)))
          have HM2 := hide (heap_last x1 (.cells #[.string (strN L), .int .i64 at1, .int .i64 (s.text L).fe, .int .i64 bad1] 44))
          have hNB := heap_lt HS1.out.v.rd
          have hBB := heap_lt HS1.out.q
          generalize x1.alloc (.cells #[.string (strN L), .int .i64 at1, .int .i64 (s.text L).fe, .int .i64 bad1] 44) = x2 at *
          generalize x1.heap.size = N at *
          clear HS1
          refine (text_c g a m c L s x2 HS2.out.v.rd HS2.out.v.src HS2.out.v.apart hnil hfit hmc (by omega)).mono ?_
          rintro e x3 ⟨v3, rfl, hor, hr, hg⟩
          have HCV : Hid (∃ A3 n3 c3, v3 = .slice A3 n3 c3 ∧ SrcB x3 A3 n3 (s.textV L)) := by
            rcases hor with ⟨_, h2, h3⟩ | ⟨_, b3, cap3, h2, _, h3⟩
            · exact ⟨none, 0, 0, h2, by rw [h3]; exact SrcB.nil _ _⟩
            · exact ⟨_, _, _, h2, h3.src⟩
          clear hor
          have HV3 := hide (HS2.out.v.step hr hg)
          have HQ3 := hide (keepG hg hgB HS2.out.q)
          have HM3 := hide (keepG hg (by omega) HM2.out)
          have hnew := HS2.out.new
          have P0 := hide p0
          have P1 := hide p1
          have HF := hide (text_fit s L hfitL)
          clear hr hg HS2 HM2 p0 p1
          generalize s.textV L = bv at *
          generalize s.text L = s1 at *
          obtain ⟨c0, c1, c2, c3, f0, f1, f2, f3⟩ := blk4 HQ3.out
          obtain ⟨r0, r1, r2, r3, g0, g1, g2, g3⟩ := blk4 HM3.out
          obtain ⟨A3, n3, cp3, rfl, hsrc3⟩ := HCV.out
          have hcv3 := conv_src (cap := cp3) hsrc3
          clear hsrc3 HCV
          go_wp2_with fail
          have HS4 := hide (St.move at1 bad1 HV3.out HQ3.out P0.out P1.out hnew hgB (by rw [← hLm]; exact HF.out) (fun ad e h0 => by have := HAB.out ad e h0; omega))
          generalize ((((x3.setCell ⟨B, 0, none⟩ (.string (strN L))).setCell ⟨B, 1, none⟩ (.int .i64 at1)).setCell ⟨B, 2, none⟩ (.int .i64 s1.fe)).setCell ⟨B, 3, none⟩ (.int .i64 bad1)) = x4 at *
          go_meet
          exact ⟨_, _, _, HS4.out⟩
        have e2 : (kz == 2) = false := by simp [k2]
        by_cases k3 : kz = 3
        · subst k3
          go_wp2_with fail
          refine (sum_q L s _ wr H8.out (by omega) hfitL HS.out.qof).mono ?_
          rintro e x1 ⟨v1, rfl, ⟨at1, bad1, rfl, p0, p1⟩, hb1⟩
          have HS1 := hide (HS.out.up hb1)
          clear hb1 HS c0 c1 c2 c3 f0 f1 f2 f3
          have hXl := sumV_len s L hfitL
          have HZ0 := hide (heap_2b x1 (.cells #[.string (strN L), .int .i64 at1, .int .i64 (s.sum L).fe, .int .i64 bad1] 44) (.cells (u8s (zeros 32)) 27))
          have HM0 := hide (heap_2a x1 (.cells #[.string (strN L), .int .i64 at1, .int .i64 (s.sum L).fe, .int .i64 bad1] 44) (.cells (u8s (zeros 32)) 27))
          have HS0 := hide (HS1.out.up (below2 x1 (.cells #[.string (strN L), .int .i64 at1, .int .i64 (s.sum L).fe, .int .i64 bad1] 44) (.cells (u8s (zeros 32)) 27)))
          have hNB := heap_lt HS1.out.v.rd
          have hBB := heap_lt HS1.out.q
          have HXl := hide hXl
          clear hXl
          go_wp2_with (refine wpList_store_whole rfl 27 (.tmp 16) (.tmp 85) rfl (x1.heap.size + 1) (s.sumV L) (zeros 32) 27 rfl rfl ?_ (by rw [HXl.out, zeros_length]) (by rw [infoS, HXl.out]) ?_; rw [zlit8]; exact HZ0.out)
          intro x2 HZ2 HG2
          rw [zlit8] at HG2
          refine of_hid ?_
          have HS2 := hide (HS0.out.kept HG2.out (by omega) (by omega) (by have := HS1.out.v.below.size; omega) HAB.out)
          have HM2 := hide (keepG HG2.out (by omega) HM0.out)
          have hnew := HS2.out.new
          have HX := hide (fun u (hu : RV w u g a m c L s) => sum_c g a m c L s u hu.rd hu.src hu.apart hnil hfit hmc (by omega))
          have P0 := hide p0
          have P1 := hide p1
          have HF := hide (sum_fit s L hfitL)
          have hN1 := HS1.out.v.below.size
          clear HS1 HS0 HZ0 HM0 HG2 p0 p1
          generalize x1.heap.size = N at *
          generalize s.sumV L = X at *
          generalize s.sum L = s1 at *
          have mixed : Tryd.prog.follows Departure.mixedOrders = true := by kernel_rfl
          go_wp2_with fail
          have HT0 : Hid (T3 w g B a m c L s s1 at_ bad at1 bad1 N X [] x2.drew) := hide ⟨HZ2.out, HM2.out, HS2.out.drew⟩
          refine Rg.wp_region_g (T3 w g B a m c L s s1 at_ bad at1 bad1 N X) [some (some (.pointer (some ⟨g, 0, none⟩))), none, some (some (.agg (u8s X))), some none] mixed (by kernel_rfl) [1] [1, 3] rfl rfl (by kernel_rfl) HT0.out ?_
          refine Rg.gF_step (by rfl) (fun h u K hT hK => ?_) ?_
          · go_simp
            exact hK _ hT
          simp only [Act.put, List.setIfInBounds_toArray, List.set_cons_zero, List.set_cons_succ]
          refine Rg.gE_step (v := .agg (u8s X)) (by rfl) (fun u K hT hK => ?_) ?_
          · go_simp
            have hst : St w g B a m c L s at_ bad u := hT.stage
            refine (HX.out u hst.v).mono ?_
            rintro e u' ⟨rfl, hr, hg⟩
            exact hK _ ⟨keepG hg (by omega) hT.z, keepG hg (by omega) hT.mm, hst.v.step hr hg, keepG hg hgB hst.q⟩
          simp only [Act.put, List.setIfInBounds_toArray, List.set_cons_zero, List.set_cons_succ]
          refine Rg.gF_step (by rfl) (fun h u K hT hK => ?_) ?_
          · exact Rx.kUpon_load_mid 27 (.tmp 16) rfl (N + 1) 0 _ rfl (load_sum hT.z HXl.out) (hK _ hT)
          simp only [Act.put, List.setIfInBounds_toArray, List.set_cons_zero, List.set_cons_succ]
          refine Rg.gG_step (v := .bool false) (by rfl) (fun h u K hT hK => ?_) ?_
          · go_simp
            rw [Se.sum_same X HXl.out]
            simp only [Result.andThen, Bool.not_true]
            exact hK _ hT
          simp only [Act.put, List.setIfInBounds_toArray, List.set_cons_zero, List.set_cons_succ]
          refine Rg.g_nil (fun x3 hT => ?_)
          have HV3 := hide hT.stage.1
          have HQ3 := hide hT.stage.2
          have HM3 := hide hT.mm
          clear hT HT0 HS2 HM2 HX
          obtain ⟨c0, c1, c2, c3, f0, f1, f2, f3⟩ := blk4 HQ3.out
          obtain ⟨r0, r1, r2, r3, g0, g1, g2, g3⟩ := blk4 HM3.out
          go_wp2_with fail
          have HS4 := hide (St.move at1 bad1 HV3.out HQ3.out P0.out P1.out hnew hgB (by rw [← hLm]; exact HF.out) (fun ad e h0 => by have := HAB.out ad e h0; omega))
          generalize ((((x3.setCell ⟨B, 0, none⟩ (.string (strN L))).setCell ⟨B, 1, none⟩ (.int .i64 at1)).setCell ⟨B, 2, none⟩ (.int .i64 s1.fe)).setCell ⟨B, 3, none⟩ (.int .i64 bad1)) = x4 at *
          go_meet
          exact ⟨_, _, _, HS4.out⟩
        have e3 : (kz == 3) = false := by simp [k3]
        by_cases k4 : kz = 4
        · subst k4
          go_wp2_with fail
          refine (end_q L s _ wr (by omega) hfitL HS.out.qof).mono ?_
          rintro e x1 ⟨v1, rfl, ⟨at1, bad1, rfl, p0, p1⟩, hb1⟩
          have HS1 := hide (HS.out.up hb1)
          clear hb1 HS c0 c1 c2 c3 f0 f1 f2 f3
          obtain ⟨c0, c1, c2, c3, f0, f1, f2, f3⟩ := blk4 HS1.out.q
          rw [hLm] at p0 p1
          rw [hLm]
          have HEn := hide (fun u (hu : RV w u g a m c L s) => end_c g a m c s u hu.rd (by omega))
          have P0 := hide p0
          have P1 := hide p1
          have HF := hide (fin_fit s m hfit)
          clear p0 p1
          have hfe1 : True := trivial
          go_wp2_with fail
          have hg4 := grown4 x1 B (.string (strN L)) (.int .i64 at1) (.int .i64 (s.fin m).fe) (.int .i64 bad1)
          have HQ2 := hide (set4 HS1.out.q (.string (strN L)) (.int .i64 at1) (.int .i64 (s.fin m).fe) (.int .i64 bad1))
          have HV2 : Hid (RV w ((((x1.setCell ⟨B, 0, none⟩ (.string (strN L))).setCell ⟨B, 1, none⟩ (.int .i64 at1)).setCell ⟨B, 2, none⟩ (.int .i64 (s.fin m).fe)).setCell ⟨B, 3, none⟩ (.int .i64 bad1)) g a m c L s) :=
            ⟨keepG hg4 (Ne.symm hgB) HS1.out.v.rd, src_kept HS1.out.v.src hg4 (fun ad e h0 => by have := HAB.out ad e h0; have := HS1.out.new; omega), belowG HS1.out.v.below hg4 HS1.out.new HS1.out.v.below.size, HS1.out.v.new, HS1.out.v.apart⟩
          have hnew := HS1.out.new
          clear hg4 c0 c1 c2 c3 f0 f1 f2 f3 HS1
          generalize ((((x1.setCell ⟨B, 0, none⟩ (.string (strN L))).setCell ⟨B, 1, none⟩ (.int .i64 at1)).setCell ⟨B, 2, none⟩ (.int .i64 (s.fin m).fe)).setCell ⟨B, 3, none⟩ (.int .i64 bad1)) = x2 at *
          generalize s.fin m = s1 at *
          refine (HEn.out x2 HV2.out).mono ?_
          intro e x3 hp
          obtain ⟨v3, rfl, hi3, hr, hg⟩ := hp.isErr
          have HS3 : Hid (St w g B a m c L s1 at1 bad1 x3) := ⟨HV2.out.step hr hg, keepG hg hgB HQ2.out, P0.out, P1.out, hnew, hgB, HF.out⟩
          have HI3 := hide hi3
          clear hp hi3 hr hg HV2 HQ2 HEn
          have HNum := hide (fun u (hu : St w g B a m c L s1 at1 bad1 u ∧ IsErr u v3 s1.fe (if s1.fe = 0 then -1 else s1.fa)) => number_c v3 _ _ u hu.2 (hu.1.et HE.out))
          have HU : Hid (∀ u u', (St w g B a m c L s1 at1 bad1 u ∧ IsErr u v3 s1.fe (if s1.fe = 0 then -1 else s1.fa)) → Below u.heap.size u u' → (St w g B a m c L s1 at1 bad1 u' ∧ IsErr u' v3 s1.fe (if s1.fe = 0 then -1 else s1.fa))) := fun u u' h hb => ⟨h.1.up hb, h.2.below hb⟩
          have HD : Hid (St w g B a m c L s1 at1 bad1 x3.drew ∧ IsErr x3.drew v3 s1.fe (if s1.fe = 0 then -1 else s1.fa)) := HU.out x3 x3.drew ⟨HS3.out, HI3.out⟩ (Below.refl _ _).drew
          have mixed : Tryd.prog.follows Departure.mixedOrders = true := by kernel_rfl
          clear HS3 HI3
          go_wp2_with fail
          refine wp_region_keep (fun u => St w g B a m c L s1 at1 bad1 u ∧ IsErr u v3 s1.fe (if s1.fe = 0 then -1 else s1.fa)) mixed (by kernel_rfl) HD.out ?_
          repeat (first
            | (refine keep_step (v := ?_) (by rfl) (fun u K hS hK => ?_) ?_
               rotate_left
               · obtain ⟨c0, c1, c2, c3, f0, f1, f2, f3⟩ := blk4 hS.1.q
                 (go_simp; first
                   | exact hK _ hS
                   | (go_at_call 33; refine (HNum.out u hS).mono ?_; rintro e u2 ⟨rfl, hb⟩; exact hK _ (HU.out u u2 hS hb)))
               simp only [Act.put, List.setIfInBounds_toArray, List.set_cons_zero, List.set_cons_succ]))
          refine keep_nil (fun x6 hS6 => ?_)
          have HS6 := hide hS6.1
          clear hS6 HNum HU HD
          go_wp2
          go_meet
          exact ⟨_, _, _, HS6.out⟩
        have e4 : (kz == 4) = false := by simp [k4]
        go_wp2
        go_meet
        exact ⟨_, _, _, HS.out⟩
      case rest =>
        clear HS c0 c1 c2 c3 f0 f1 f2 f3 hx' hfit hfitL
        obtain ⟨s1, at1, bad1, hst⟩ := hcut
        have HS4 := hide hst
        clear hst
        generalize wc = x4 at *
        go_wp2_with fail
        refine (err_c g a m c s1 x4 HS4.out.v.rd).mono ?_
        intro e x5 hp
        obtain ⟨v5, rfl, hi5, hb5⟩ := hp.isErr
        have HS5 := hide (HS4.out.up hb5)
        have HI5 := hide hi5
        clear hp hi5 hb5 HS4
        go_wp2_with fail
        have HNum := hide (fun u (hu : St w g B a m c L s1 at1 bad1 u ∧ IsErr u v5 s1.fe (if s1.fe = 0 then -1 else s1.fa)) => number_c v5 _ _ u hu.2 (hu.1.et HE.out))
        have HPl := hide (fun u (hu : St w g B a m c L s1 at1 bad1 u ∧ IsErr u v5 s1.fe (if s1.fe = 0 then -1 else s1.fa)) => place_c v5 _ _ u hu.2 (hu.1.et HE.out))
        have HAt := hide (fun u (hu : St w g B a m c L s1 at1 bad1 u ∧ IsErr u v5 s1.fe (if s1.fe = 0 then -1 else s1.fa)) => at_c g a m c s1 u hu.1.v.rd)
        have mixed : Tryd.prog.follows Departure.mixedOrders = true := by kernel_rfl
        have HU : Hid (∀ u u', (St w g B a m c L s1 at1 bad1 u ∧ IsErr u v5 s1.fe (if s1.fe = 0 then -1 else s1.fa)) → Below u.heap.size u u' → (St w g B a m c L s1 at1 bad1 u' ∧ IsErr u' v5 s1.fe (if s1.fe = 0 then -1 else s1.fa))) := fun u u' h hb => ⟨h.1.up hb, h.2.below hb⟩
        have HD : Hid (St w g B a m c L s1 at1 bad1 x5.drew ∧ IsErr x5.drew v5 s1.fe (if s1.fe = 0 then -1 else s1.fa)) := HU.out x5 x5.drew ⟨HS5.out, HI5.out⟩ (Below.refl _ _).drew
        clear HS5 HI5
        obtain ⟨p1, fa1, fe1⟩ := s1
        by_cases hfe : fe1 = 0
        · have hat1 := HD.out.1.h0 hfe
          simp only at hat1
          subst hfe
          subst hat1
          refine wp_region_keep (fun u => St w g B a m c L ⟨p1, fa1, 0⟩ (p1 : Int) bad1 u ∧ IsErr u v5 0 (-1)) mixed (by kernel_rfl) HD.out ?_
          repeat (first
            | (refine keep_not (by rfl) ?_
               simp only [Act.put, List.setIfInBounds_toArray, List.set_cons_zero, List.set_cons_succ])
            | (refine keep_step (v := ?_) (by rfl) (fun u K hS hK => ?_) ?_
               rotate_left
               · obtain ⟨c0, c1, c2, c3, f0, f1, f2, f3⟩ := blk4 hS.1.q
                 simp only at c2
                 (go_simp; first
                   | exact hK _ hS
                   | (go_at_call 33; refine (HNum.out u hS).mono ?_; rintro e u2 ⟨rfl, hb⟩; exact hK _ (HU.out u u2 hS hb))
                   | (go_at_call 36; refine (HPl.out u hS).mono ?_; rintro e u2 ⟨rfl, hb⟩; exact hK _ (HU.out u u2 hS hb))
                   | (go_at_call 35; refine (HAt.out u hS).mono ?_; rintro e u2 ⟨rfl, rfl⟩; exact hK _ hS))
               simp only [Act.put, List.setIfInBounds_toArray, List.set_cons_zero, List.set_cons_succ]))
          refine keep_nil (fun x6 hS6 => ?_)
          have HS6 := hide hS6.1
          clear hS6 HNum HPl HAt HU HD
          go_wp2
          go_roundw
          case rel => exact ⟨t + 1, _, _, _, by go_num, by omega, HS6.out⟩
          case measure => simp [intOf]; omega
        · have hbad := HD.out.1.h1 hfe
          simp only at hbad
          subst hbad
          have hz1 : (fe1 == 0) = false := by simp [hfe]
          have hz2 : (fe1 != 0) = true := by rw [bne_iff_ne]; exact hfe
          simp only [if_neg hfe] at HNum HPl HAt HU HD
          have Hfe := hide hfe
          clear hfe
          refine wp_region_keep (fun u => St w g B a m c L ⟨p1, bad1, fe1⟩ at1 bad1 u ∧ IsErr u v5 fe1 bad1) mixed (by kernel_rfl) HD.out ?_
          repeat (first
            | (refine keep_not (by rfl) ?_
               simp only [Act.put, List.setIfInBounds_toArray, List.set_cons_zero, List.set_cons_succ])
            | (refine keep_step (v := ?_) (by rfl) (fun u K hS hK => ?_) ?_
               rotate_left
               · obtain ⟨c0, c1, c2, c3, f0, f1, f2, f3⟩ := blk4 hS.1.q
                 simp only at c2
                 (go_simp; first
                   | exact hK _ hS
                   | (go_at_call 33; refine (HNum.out u hS).mono ?_; rintro e u2 ⟨rfl, hb⟩; exact hK _ (HU.out u u2 hS hb))
                   | (go_at_call 36; refine (HPl.out u hS).mono ?_; rintro e u2 ⟨rfl, hb⟩; exact hK _ (HU.out u u2 hS hb))
                   | (go_at_call 35; refine (HAt.out u hS).mono ?_; rintro e u2 ⟨rfl, rfl⟩; exact hK _ hS))
               simp only [Act.put, List.setIfInBounds_toArray, List.set_cons_zero, List.set_cons_succ]))
          refine keep_nil (fun x6 hS6 => ?_)
          have HS6 := hide hS6.1
          clear hS6 HNum HPl HAt HU HD
          go_wp2
          go_roundw
          case rel => exact ⟨t + 1, _, _, _, by go_num, by omega, HS6.out⟩
          case measure => simp [intOf]; omega
    · have d1 : decide ((t : Int) < (n : Int)) = false := by simp; omega
      go_wp2
      go_ret
      exact ⟨rfl, HS.out.v.below⟩
end Go.Proofs.YtjojckdoocbelaaDoor.CodeReadsW
