/- FrameRows' walk. -/
import Derived.Test.YtofflmhfffphdaaGr
import Derived.Test.YtofflmhfffphdaaFe
import Derived.Test.YtofflmhfffphdaaFp
import Derived.OwnWalk
import Derived.Laws.StructEq
namespace Go.Proofs.Ytofflmhfffphdaa.FrameRowsW
set_option linter.unusedVariables false
set_option linter.unusedSimpArgs false
set_option maxRecDepth 100000
open Go.ChangeShapes Go.WideShapes Go.ChangeAt Go.RowKit
open Go.Proofs.Ytofflmhfffphdaa.Wu Go.Proofs.Ytofflmhfffphdaa.Sm Go.Proofs.Ytofflmhfffphdaa.Sh Go.Proofs.Ytofflmhfffphdaa.Ba Go.Proofs.Ytofflmhfffphdaa.Bp Go.Proofs.Ytofflmhfffphdaa.Bq Go.Proofs.Ytofflmhfffphdaa.Bs Go.Proofs.Ytofflmhfffphdaa.Cm Go.Proofs.Ytofflmhfffphdaa.Rk Go.Proofs.Ytofflmhfffphdaa.Fa Go.Proofs.Ytofflmhfffphdaa.Fb Go.Proofs.Ytofflmhfffphdaa.Fc Go.Proofs.Ytofflmhfffphdaa.Fd Go.Proofs.Ytofflmhfffphdaa.Fo Go.Proofs.Ytofflmhfffphdaa.Fq Go.Proofs.Ytofflmhfffphdaa.Fp Go.Proofs.Ytofflmhfffphdaa.Gr
attribute [local go_sem] kUpon_value kUpon_skip kUpon_enter
def Post (w : World) (e : Ending) (w' : World) : Prop := e = .returned (.bool true) ∧ Below w.heap.size w w'
theorem out_walk (a : Option Addr) (l c : Nat) (w : World) (h : 20 < l) (hl : l ≤ 9223372036854775807) :
    Calls Try.prog 3 #[.slice a l c] w (Post w) := by
  have HC := hide (Fe.reads_c w)
  have d1 : decide ((20 : Int) < (l : Int)) = true := by simp; omega
  have d1' : decide (20 < l) = true := by simp; omega
  go_enter Try.func3, Try.ntmps3
  go_wp2_with fail
  refine HC.out.mono ?_
  rintro e w1 ⟨rfl, hb⟩
  have HB := hide hb
  clear hb HC
  go_wp2
  go_ret
  exact ⟨rfl, HB.out⟩
theorem below_grown {w w1 : World} (h : Below w.heap.size w w1) (k : Option Nat) : w.grownBy w1 k := ⟨h.os, h.tape, h.output, h.size, fun b hb _ => h.block b hb⟩
/-- A frame behind a buffer: only the buffer's own row turns. -/
theorem append_buf2 (k s : Nat) (a : Option Addr) (l c N : Nat) (v : Value) (L D : List Nat) (w : World) (hb : Buf w v N L) (hN : N ≤ w.heap.size) (hs : SrcB w a l D) (hn : a = none → l = 0) (hi : L.length ≤ 1000000) (hk1 : 1 ≤ k) (hk2 : k ≤ 31) (hs2 : s ≤ 7) (hl : l ≤ 16384) (hlc : l ≤ c) :
    Calls Try.prog 5 #[.agg #[.int .i64 (k : Int), .int .i64 (s : Int), .slice a l c], v] w fun e w' => ∃ v', e = .returned (.tuple #[v', .int .i64 0]) ∧ Buf w' v' N (L ++ frL k s D) ∧ w.grownBy w' v.ownBlock ∧ (v'.ownBlock = v.ownBlock ∨ ∀ g, v'.ownBlock = some g → w.heap.size ≤ g) := by
  rcases hb with ⟨rfl, rfl⟩ | ⟨g, cap, rfl, hg, hd⟩
  · refine (append_nil k s a l c D w hs hn hk1 hk2 hs2 hl hlc).mono ?_
    rintro e w' ⟨v', rfl, hb, hB⟩
    refine ⟨v', rfl, ?_, below_grown hB _, .inr (fun g hg => ?_)⟩
    · rw [List.nil_append]
      rcases hb with h | ⟨g, cap, h1, h2, h3⟩
      · exact .inl h
      · exact .inr ⟨g, cap, h1, by omega, h3⟩
    · rcases hb with ⟨h, _⟩ | ⟨g', cap, h1, h2, h3⟩
      · rw [h] at hg; cases hg
      · rw [h1] at hg; injection hg with hg; have hg : g' = g := hg; omega
  · refine (append_ok k s a l c g L.length cap L D w hd hs hn hi hk1 hk2 hs2 hl hlc).mono ?_
    rintro e w' ⟨g', cap', n, rfl, h1, h2, h3⟩
    have := h1.len
    subst this
    refine ⟨_, rfl, .inr ⟨g', cap', rfl, ?_, h1⟩, h2, ?_⟩
    · rcases h3 with rfl | h3 <;> omega
    · rcases h3 with rfl | h3
      · exact .inl rfl
      · exact .inr (fun q hq => by injection hq with hq; have hq : g' = q := hq; omega)
theorem Buf.own {w : World} {v : Value} {N : Nat} {L : List Nat} (h : Buf w v N L) : ∀ g, v.ownBlock = some g → N ≤ g ∧ g < w.heap.size := by
  intro g hg
  rcases h with ⟨rfl, _⟩ | ⟨g', cap, rfl, h2, hd⟩
  · cases hg
  · injection hg with hg
    have hg : g' = g := hg
    subst hg
    exact ⟨h2, hd.lt⟩
theorem Buf.kept {w w' : World} {v : Value} {N : Nat} {L : List Nat} {row : Option Nat} (h : Buf w v N L) (hg : w.grownBy w' row) (hk : ∀ g, v.ownBlock = some g → row ≠ some g) : Buf w' v N L := by
  rcases h with h | ⟨g, cap, h1, h2, hd⟩
  · exact .inl h
  · refine .inr ⟨g, cap, h1, h2, ?_⟩
    have e := hg.block g hd.lt (fun e => hk g (by rw [h1]; rfl) e.symm)
    exact ⟨hd.len, hd.all, hd.fit, hd.max, Nat.lt_of_lt_of_le hd.lt hg.size, fun j v hv => by rw [World.cell?_of_block (a := ⟨g, 0 + j, none⟩) e]; exact hd.cells j v hv,
      fun j hj => ⟨by rw [World.cell?_of_block (a := ⟨g, L.length + j, none⟩) e]; exact (hd.spare j hj).1, by rw [World.frozen?_of_block (a := ⟨g, L.length + j, none⟩) e]; exact (hd.spare j hj).2⟩,
      fun o => by rw [World.frozen?_of_block (a := ⟨g, o, none⟩) e]; exact hd.free o⟩
/-- Frames written so far. -/
structure W1 (w : World) (i : Nat) (xs : List G) (b gv : Value) (wr : World) : Prop where
  good : ∀ x ∈ xs, x.good w
  few : xs.length ≤ i
  buf : Buf wr b w.heap.size (gb xs)
  len : (gb xs).length ≤ i * 16400
  gs : Gs wr gv w.heap.size xs
  apart : ∀ g, b.ownBlock = some g → gv.ownBlock ≠ some g
  below : Below w.heap.size w wr
/-- Bytes that are left to be read. -/
structure W2 (w : World) (xs : List G) (gv : Value) (Y : List Nat) (rb : Option Addr) (rc : Nat) (wr : World) : Prop where
  src : SrcB wr rb Y.length Y
  room : Y.length ≤ rc
  max : rc ≤ 9223372036854775807
  non : rb = none → Y = []
  gs : Gs wr gv w.heap.size xs
  below : Below w.heap.size w wr
theorem grownW {N : Nat} {w0 w w' : World} {row : Option Nat} (hb : Below N w0 w) (hN : N ≤ w.heap.size) (h : w.grownBy w' row) (hr : ∀ g, row = some g → N ≤ g) : Below N w0 w' :=
  hb.trans ⟨h.os, h.tape, h.output, h.size, fun k hk => h.block k (by omega) (fun e => by have := hr k e.symm; omega)⟩
theorem eq_frame (k s : Int) (D : List Nat) (u : World) : Sem.run Try.prog (Op.equalIn 10000 35 (.agg #[.int .i64 k, .int .i64 s, .string (strN D)]) (.agg #[.int .i64 k, .int .i64 s, .string (strN D)])) u = .ok true u := by
  generalize strN D = X
  go_simp
set_option maxHeartbeats 3200000 in
theorem walk (a : Option Addr) (len cap : Nat) (w : World) (hf : IsFrames w a len cap) (hl : len ≤ 20) :
    Calls Try.prog 3 #[.slice a len cap] w (Post w) := by
  have HC := hide (Fe.reads_c w)
  have HFs := hide hf.2.2
  have hcap := hf.1
  have hcap2 := hf.2.1
  clear hf
  have d1 : decide ((20 : Int) < (len : Int)) = false := by simp; omega
  have d1' : decide (20 < len) = false := by simp; omega
  go_enter Try.func3, Try.ntmps3
  go_wp2_with fail
  refine HC.out.mono ?_
  rintro e w1 ⟨rfl, hb⟩
  have HB1 := hide hb
  clear hb HC
  go_wp2_with fail
  have H0 : Hid (W1 w 0 [] (.slice none 0 0) (.slice none 0 0) w1) := hide ⟨(by intro f hf; cases hf), Nat.le_refl _, .inl ⟨rfl, rfl⟩, (by simp [gb]), Gs.nil _ _, (fun g hg => by cases hg), HB1.out⟩
  go_loopw [21, 3, 4] (fun j b gv wr => ∃ i xs, j = .int .i64 ((i : Nat) : Int) ∧ i ≤ len ∧ W1 w i xs b gv wr) (fun j _ _ _ => len - (intOf j).toNat)
  case atStart => exact ⟨0, [], rfl, Nat.zero_le _, H0.out⟩
  case round =>
    clear H0 HB1
    obtain ⟨i, xs, rfl, hi, hW⟩ := hrel
    have HW := hide hW
    have hfew := hW.few
    clear hW
    by_cases hlt : i < len
    · obtain ⟨xb, xo, ha, hcells⟩ := HFs.out (by omega)
      obtain ⟨k, s, b, l, c, D, c0, c1, c2, hd⟩ := hcells i hlt
      subst ha
      have k0 := keepC HW.out.below (Nat.le_refl _) c0
      have k1 := keepC HW.out.below (Nat.le_refl _) c1
      have k2 := keepC HW.out.below (Nat.le_refl _) c2
      have HD := hide hd
      clear hcells c0 c1 c2 hd
      rw [Nat.add_zero] at k0
      have hb8 := below_new wr (.cells #[.int .i64 k, .int .i64 s, .slice b l c] 26)
      have hx8 := heap_last wr (.cells #[.int .i64 k, .int .i64 s, .slice b l c] 26)
      have hB8 := keepB hb8 (Nat.le_refl _) HW.out.below
      have hlm : l ≤ 9223372036854775807 := by have := HD.out.2.1; have := HD.out.2.2.1; omega
      by_cases hk : chk k s l = 0
      · obtain ⟨g1, g2, g3, g4, g5⟩ := chk_good hk
        obtain ⟨k, rfl⟩ := Int.eq_ofNat_of_zero_le (a := k) (by omega)
        obtain ⟨s, rfl⟩ := Int.eq_ofNat_of_zero_le (a := s) (by omega)
        have hgood : G.good w ⟨k, s, b, l, c, D⟩ := ⟨show 1 ≤ k by omega, show k ≤ 31 by omega, show s ≤ 7 by omega, g5, HD.out.2.1, HD.out.1, HD.out.2.2.2⟩
        have HA := hide (append_buf2 k s b l c w.heap.size u3 (gb xs) D _ (HW.out.buf.up hb8) hB8.size ((HD.out.1.below HW.out.below).below hb8) HD.out.2.2.2 (by have := HW.out.len; omega) (by omega) (by omega) (by omega) g5 HD.out.2.1)
        have HB8 := hide hB8
        have HX8 := hide hx8
        have HG8 := hide (HW.out.gs.below hb8)
        have hown3 := Buf.own HW.out.buf
        have hown4 := HW.out.gs.own
        have hap := HW.out.apart
        have h8z : wr.heap.size < (wr.alloc (.cells #[.int .i64 (k : Int), .int .i64 (s : Int), .slice b l c] 26)).heap.size := by simp
        clear hb8 hB8 hk hx8
        go_wp2_with fail
        generalize wr.alloc (.cells #[.int .i64 (k : Int), .int .i64 (s : Int), .slice b l c] 26) = w8 at *
        refine HA.out.mono ?_
        rintro e w9 ⟨v9, rfl, hbuf, hgr, hor⟩
        have hB9 := grownW HB8.out HB8.out.size hgr (fun g hg => (hown3 g hg).1)
        have hX9 := (hgr.block wr.heap.size h8z (fun e => by have := (hown3 _ e.symm).2; omega)).trans HX8.out
        have hG9 := HG8.out.same (w' := w9) (fun g hg => hgr.block g (by have := (hown4 g hg).2; omega) (fun e => hap g e.symm hg))
        have hap9 : ∀ g, v9.ownBlock = some g → u4.ownBlock ≠ some g := fun g hg e => by
          rcases hor with h | h
          · rw [h] at hg; exact hap g hg e
          · have := h g hg; have := (hown4 g e).2; omega
        have h9z := hgr.size
        have hb10 := below_new w9 (.cells #[.int .i64 (k : Int), .int .i64 (s : Int), .slice b l c] 26)
        have HX10 := hide (heap_last w9 (.cells #[.int .i64 (k : Int), .int .i64 (s : Int), .slice b l c] 26))
        have HG10 := hide (hG9.below hb10)
        have HBf10 := hide (hbuf.up hb10)
        have HB10 := hide (keepB hb10 (Nat.le_refl _) hB9)
        have m0 : w9.cell? ⟨wr.heap.size, 0, none⟩ = _ := blk_cell hX9 rfl
        have m1 : w9.cell? ⟨wr.heap.size, 1, none⟩ = _ := blk_cell hX9 rfl
        have m2 : w9.cell? ⟨wr.heap.size, 2, none⟩ = _ := blk_cell hX9 rfl
        have hfl := frL_max hgood
        simp only at hfl
        have HNg := hide hgood
        have HAp := hide hap9
        clear hbuf hgr hor hB9 hX9 hG9 hap9 hgood hap HA HB8 HX8 HG8 k0 k1 k2 hb10
        go_wp2_with (refine wpList_append_g rfl (.tmp 34) (.tmp 36) rfl u4 w.heap.size xs w9.heap.size 1 ⟨k, s, b, l, c, D⟩ 26 (0, 0) rfl rfl HG10.out HB10.out.size HX10.out (by omega) ?_)
        intro v11 w11 HG11 HGr11 HO11
        refine of_hid ?_
        have HN : Hid (W1 w (i + 1) (xs ++ [⟨k, s, b, l, c, D⟩]) v9 v11 w11) := hide ⟨by
            intro x hx
            rcases List.mem_append.1 hx with h | h
            · exact HW.out.good x h
            · simp only [List.mem_singleton] at h; subst h; exact HNg.out, by simp only [List.length_append, List.length_cons, List.length_nil]; omega, by
            rw [gb_snoc]
            exact Buf.kept HBf10.out HGr11.out (fun g hg => HAp.out g hg), by
            rw [gb_snoc, List.length_append]
            have := HW.out.len
            simp only
            omega, HG11.out, by
            intro g hg e
            rcases HO11.out with h | h
            · rw [h] at e; exact HAp.out g hg e
            · rw [h] at e; injection e with e; have h2 := (Buf.own HBf10.out g hg).2; simp only [World.size_alloc] at h2 e; omega, grownW HB10.out HB10.out.size HGr11.out (fun g hg => (Gs.own HG10.out g hg).1)⟩
        clear HG10 HBf10 HB10 HX10 HG11 HGr11 HO11 m0 m1 m2 HW HNg HAp
        go_wp2
        go_roundw
        case rel => exact ⟨i + 1, _, by go_num, by omega, HN.out⟩
        case measure => simp [intOf]; omega
      · have HA := hide (append_bad k s b l c u3 (wr.alloc (.cells #[.int .i64 k, .int .i64 s, .slice b l c] 26)) hlm hk)
        have HN : Hid (∀ u, Below (wr.alloc (.cells #[.int .i64 k, .int .i64 s, .slice b l c] 26)).heap.size (wr.alloc (.cells #[.int .i64 k, .int .i64 s, .slice b l c] 26)) u → W1 w (i + 1) xs u3 u4 u) := hide (fun u hu => ⟨HW.out.good, by omega, (HW.out.buf.up hb8).up hu, by have := HW.out.len; omega, (HW.out.gs.below hb8).below hu, HW.out.apart, keepB hu (Nat.le_refl _) hB8⟩)
        obtain ⟨z, hz⟩ : ∃ z, z = chk k s l := ⟨_, rfl⟩
        rw [← hz] at hk HA
        have e1 : (z == 0) = false := by simp; exact hk
        clear hz hk hb8 hB8 hx8
        go_wp2_with fail
        refine HA.out.mono ?_
        rintro e w9 ⟨rfl, hb9⟩
        have HN9 := hide (HN.out w9 hb9)
        clear hb9 HA HN k0 k1 k2
        go_wp2
        go_roundw
        case rel => exact ⟨i + 1, xs, by go_num, by omega, HN9.out⟩
        case measure => simp [intOf]; omega
    · have hil : i = len := by omega
      subst hil
      have hgood := HW.out.good
      have HGood := hide hgood
      have hXl : (gb xs).length ≤ 328000 := by have := HW.out.len; omega
      have HLen := hide hXl
      obtain ⟨rb, rc, hrb, hsrc, hroom, hmax, hnil⟩ := HW.out.buf.form
      obtain ⟨ga, ca, hga, hgl, hgm⟩ := HW.out.gs.form
      unfold maxLen at hmax hgm
      have H2 : Hid (W2 w xs u4 (gb xs) rb rc wr) := hide ⟨hsrc, hroom, by omega, (fun e => List.length_eq_zero_iff.1 (hnil e).1), HW.out.gs, HW.out.below⟩
      subst hrb hga
      obtain ⟨n, hn⟩ : ∃ n, n = xs.length := ⟨_, rfl⟩
      rw [← hn] at hgl hfew ⊢
      have Hn := hide hn
      have hca : ca ≤ 9223372036854775807 := by omega
      clear hgood hsrc hnil HW hgm hmax hroom
      rw [← hn] at H2
      clear hn
      go_wp2_with fail
      go_loopw [41, 3] (fun jv b wr => ∃ j rb rc, jv = .int .i64 ((j : Nat) : Int) ∧ j ≤ n ∧ b = .slice rb (gb (xs.drop j)).length rc ∧ W2 w xs (.slice ga n ca) (gb (xs.drop j)) rb rc wr) (fun jv _ _ => n - (intOf jv).toNat)
      case atStart => exact ⟨0, rb, rc, rfl, Nat.zero_le _, rfl, H2.out⟩
      case round =>
        clear H2
        obtain ⟨j, rb, rc, rfl, hj, rfl, hW⟩ := hrel
        have HW := hide hW
        clear hW
        by_cases hjn : j < n
        · have hjx : j < xs.length := by rw [← Hn.out]; exact hjn
          have hdrop : xs.drop j = xs[j] :: xs.drop (j + 1) := List.drop_eq_getElem_cons hjx
          have hmem : xs[j].good w := HGood.out _ (List.getElem_mem hjx)
          have hat := Gs.at HW.out.gs j xs[j] (List.getElem?_eq_getElem hjx)
          obtain ⟨x, hx⟩ : ∃ x, x = xs[j] := ⟨_, rfl⟩
          rw [← hx] at hdrop hmem hat
          clear hx
          obtain ⟨g, cap', hs3, x0, x1, x2⟩ := hat
          have q1 : ga = some ⟨g, 0, none⟩ := by injection hs3
          clear hs3
          subst q1
          rw [Nat.mul_comm] at x0 x1 x2
          have hfm := frL_max hmem
          obtain ⟨k, s, xa, l, c, D⟩ := x
          simp only at x0 x1 x2 hfm
          have hY : gb (xs.drop j) = frL k s D ++ gb (xs.drop (j + 1)) := by rw [hdrop]; rfl
          obtain ⟨R, hRd⟩ : ∃ R, R = gb (xs.drop (j + 1)) := ⟨_, rfl⟩
          rw [← hRd] at hY
          have hW := HW.out
          rw [hY] at hW ⊢
          have HW := hide hW
          have HR := hide hRd
          have hY0 := hY
          clear hW hY hRd hdrop
          obtain ⟨g1, g2, g3, g4, g5, g6, g7⟩ := hmem
          simp only at g1 g2 g3 g4 g5 g6 g7
          have hDl := g6.1
          obtain ⟨fl, hfl⟩ : ∃ fl, fl = (frL k s D).length := ⟨_, rfl⟩
          obtain ⟨m, hm⟩ : ∃ m, m = (frL k s D ++ R).length := ⟨_, rfl⟩
          have hmY : (gb (xs.drop j)).length = m := by rw [hY0, hm]
          have hmr : m = fl + R.length := by rw [hm, hfl, List.length_append]
          have hmc := HW.out.room
          have hmx := HW.out.max
          have hsr := HW.out.src
          rw [← hm] at hmc hsr ⊢
          rw [← hfl] at hfm
          obtain ⟨ad, hrb⟩ : ∃ ad, rb = some ad := by
            cases hrb : rb with
            | none =>
              have := congrArg List.length (HW.out.non hrb)
              rw [← hm] at this
              simp at this
              omega
            | some ad => exact ⟨ad, rfl⟩
          subst hrb
          have hmb : m ≤ 328000 := by
            have h1 := gb_drop xs j
            have h2 := HLen.out
            omega
          have hb8 := below_new wr (.cells #[.int .i64 (k : Int), .int .i64 (s : Int), .slice xa l c] 26)
          have HRd := hide (read_ok k s D ad m rc R _ (hsr.below hb8) hmc (by omega) g1 g2 g3 (by omega))
          have HX8 := hide (heap_last wr (.cells #[.int .i64 (k : Int), .int .i64 (s : Int), .slice xa l c] 26))
          have HB8 := hide hb8
          have hsl := fun u : World => slice_from u (some ad) m rc fl (by omega)
          obtain ⟨ra, hra⟩ : ∃ ra, ra = (if rc = fl then some ad else (some ad).map (·.add fl)) := ⟨_, rfl⟩
          rw [← hra] at hsl
          have hsrR : SrcB wr ra (m - fl) R := by
            rw [hra]
            by_cases hc : rc = fl
            · rw [if_pos hc]
              have : R = [] := List.length_eq_zero_iff.1 (by omega)
              rw [this, show m - fl = 0 by omega]
              exact SrcB.nil _ _
            · rw [if_neg hc]
              have h1 := src_drop (n := fl) hsr hfl.symm (by omega)
              exact h1
          have HSR := hide hsrR
          have HRn : Hid (ra ≠ none) := hide (by rw [hra]; split <;> simp)
          have HG6 := hide g6
          clear hsrR hra hb8 hsr
          have Hfl := hide hfl
          have HmY := hide hmY
          have Hmr := hide hmr
          clear hfl hm hmY hmr hY0
          go_wp2_with fail
          generalize wr.alloc (.cells #[.int .i64 (k : Int), .int .i64 (s : Int), .slice xa l c] 26) = w8 at *
          refine HRd.out.mono ?_
          rintro e w9 ⟨g9, cap9, rfl, hg9, hd9, hb9⟩
          rw [← Hfl.out, hDl]
          rw [hDl] at hd9
          have hb10 := below_new w9 (.cells #[.int .i64 (k : Int), .int .i64 (s : Int), .slice (some ⟨g9, 0, none⟩) l cap9] 26)
          have hb810 := keepB hb10 (Nat.le_refl _) hb9
          have hb0 := keepB hb810 (Nat.le_refl _) HB8.out
          have HX10 := hide (heap_last w9 (.cells #[.int .i64 (k : Int), .int .i64 (s : Int), .slice (some ⟨g9, 0, none⟩) l cap9] 26))
          have HXx := hide (below_blk hb810 (heap_lt HX8.out) HX8.out)
          have HS10 := hide (hd9.src.below hb10)
          have HB10 := hide hb0
          have HBw := hide (keepB hb0 (Nat.le_refl _) HW.out.below)
          have hg89 : wr.heap.size < w9.heap.size := Nat.lt_of_lt_of_le (heap_lt HX8.out) hb9.size
          clear hb10 hb810 hb0 hd9 hb9 HRd HX8 HB8
          have h2 : decide ((fl : Int) < 2) = false := by simp; omega
          have h3 : decide ((m : Int) < (fl : Int)) = false := by simp; have := Hmr.out; omega
          have h3' : decide (m < fl) = false := by simp; have := Hmr.out; omega
          go_wp2_with fail
          generalize w9.alloc (.cells #[.int .i64 (k : Int), .int .i64 (s : Int), .slice (some ⟨g9, 0, none⟩) l cap9] 26) = w10 at *
          generalize w9.heap.size = GB at *
          have HP1 := hide (fun u (hu : Below w10.heap.size w10 u) => plain_c (k : Int) (s : Int) (some ⟨g9, 0, none⟩) l cap9 D u (HS10.out.below hu))
          have HP2 := hide (fun u (hu : Below w10.heap.size w10 u) => plain_c (k : Int) (s : Int) xa l c D u ((HG6.out.below HBw.out).below hu))
          have mixed : Try.prog.follows Departure.mixedOrders = true := by kernel_rfl
          have heq := eq_frame (k : Int) (s : Int) D
          refine wp_region_keep (fun u => Below w10.heap.size w10 u) mixed (by kernel_rfl) (Below.refl _ _).drew ?_
          repeat (first
            | (refine keep_step (v := ?_) (by rfl) (fun u K hS hK => ?_) ?_
               rotate_left
               · have r0 : u.cell? ⟨GB, 0, none⟩ = _ := keepC hS (Nat.le_refl _) (blk_cell HX10.out rfl)
                 have r1 : u.cell? ⟨GB, 1, none⟩ = _ := keepC hS (Nat.le_refl _) (blk_cell HX10.out rfl)
                 have r2 : u.cell? ⟨GB, 2, none⟩ = _ := keepC hS (Nat.le_refl _) (blk_cell HX10.out rfl)
                 have s0 : u.cell? ⟨wr.heap.size, 0, none⟩ = _ := keepC hS (Nat.le_refl _) (blk_cell HXx.out rfl)
                 have s1 : u.cell? ⟨wr.heap.size, 1, none⟩ = _ := keepC hS (Nat.le_refl _) (blk_cell HXx.out rfl)
                 have s2 : u.cell? ⟨wr.heap.size, 2, none⟩ = _ := keepC hS (Nat.le_refl _) (blk_cell HXx.out rfl)
                 (go_simp; first
                   | (with_reducible exact hK _ hS)
                   | (go_at_call 7; (with_reducible refine Calls.mono (HP1.out u hS) ?_); rintro e u2 ⟨rfl, hb⟩; exact hK _ (keepB hb (Nat.le_refl _) hS))
                   | (go_at_call 7; (with_reducible refine Calls.mono (HP2.out u hS) ?_); rintro e u2 ⟨rfl, hb⟩; exact hK _ (keepB hb (Nat.le_refl _) hS)))
               simp only [Act.put, List.setIfInBounds_toArray, List.set_cons_zero, List.set_cons_succ]))
          refine keep_nil (fun w11 hS11 => ?_)
          have hb0 := keepB hS11 (Nat.le_refl _) HB10.out
          have HN : Hid (W2 w xs (.slice (some ⟨g, 0, none⟩) n ca) R ra (rc - fl) w11) := hide ⟨by
            have := HSR.out.below hb0
            rw [show m - fl = R.length by have := Hmr.out; omega] at this
            exact this, by have := Hmr.out; omega, by omega, fun e => absurd e HRn.out, HW.out.gs.below hb0, keepB hb0 (Nat.le_refl _) HW.out.below⟩
          clear hS11 hb0 HP1 HP2 HS10 HX10 HXx HBw HB10 HSR HW
          go_wp2
          go_roundw
          case rel =>
            refine ⟨j + 1, ra, rc - fl, by go_num, by omega, ?_, ?_⟩
            · rw [← HR.out, show m - fl = R.length by have := Hmr.out; omega]
            · rw [← HR.out]; exact HN.out
          case measure => simp [intOf]; omega
        · have hjn' : j = n := by omega
          have hY : gb (xs.drop j) = [] := by rw [List.drop_eq_nil_of_le (by have := Hn.out; omega)]; rfl
          rw [hY]
          have HB := hide HW.out.below
          clear HW hY
          simp only [List.length_nil]
          go_wp2
          go_ret
          exact ⟨rfl, HB.out⟩
end Go.Proofs.Ytofflmhfffphdaa.FrameRowsW
