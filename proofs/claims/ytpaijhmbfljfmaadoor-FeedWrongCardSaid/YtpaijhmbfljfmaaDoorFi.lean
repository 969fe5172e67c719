/- frame.Read of any bytes. -/
import Derived.Test.YtpaijhmbfljfmaaDoorFh
namespace Go.Proofs.YtpaijhmbfljfmaaDoor.Fi
set_option linter.unusedVariables false
set_option linter.unusedSimpArgs false
set_option maxRecDepth 100000
open Go.ChangeShapes Go.WideShapes Go.ChangeAt Go.RowKit
open Go.Proofs.YtpaijhmbfljfmaaDoor.Wu Go.Proofs.YtpaijhmbfljfmaaDoor.Sm Go.Proofs.YtpaijhmbfljfmaaDoor.Sh Go.Proofs.YtpaijhmbfljfmaaDoor.Ba Go.Proofs.YtpaijhmbfljfmaaDoor.Bp Go.Proofs.YtpaijhmbfljfmaaDoor.Cr Go.Proofs.YtpaijhmbfljfmaaDoor.Er Go.Proofs.YtpaijhmbfljfmaaDoor.Eu Go.Proofs.YtpaijhmbfljfmaaDoor.Cv Go.Proofs.YtpaijhmbfljfmaaDoor.Cw Go.Proofs.YtpaijhmbfljfmaaDoor.Cz Go.Proofs.YtpaijhmbfljfmaaDoor.Fh
def readR (L : List Nat) : HR :=
  match headR L with
  | .bad code place => .bad code place
  | .ok k s h n => if L.length < h + n then .bad 30 (L.length : Int) else .ok k s h n
def ReadP (w : World) (L : List Nat) (R : HR) (e : Ending) (w' : World) : Prop :=
  Below w.heap.size w w' ∧ match R with
  | .bad code place => ∃ v, e = .returned (.tuple #[zf, .int .i64 0, v]) ∧ Flt w code place v w'
  | .ok k s h n => ∃ g cap, e = .returned (.tuple #[.agg #[.int .i64 (k : Int), .int .i64 (s : Int), .slice (some ⟨g, 0, none⟩) n cap], .int .i64 ((h + n : Nat) : Int), .nilIface]) ∧ w.heap.size ≤ g ∧ Dst w' g n cap ((L.drop h).take n)
theorem headR_ok {L : List Nat} {k s h n : Nat} (hR : headR L = .ok k s h n) : h ≤ L.length ∧ n ≤ 16384 ∧ 0 < L.length ∧ 0 < h := by
  unfold headR at hR
  split at hR
  · cases hR
  · split at hR
    · cases hR
    · rename_i h1 h2
      split at hR
      · cases hR
      · rename_i h3
        simp only [HR.ok.injEq] at hR
        obtain ⟨_, _, hh, hn⟩ := hR
        have h0 : 0 < L.length := by
          rcases Nat.eq_zero_or_pos L.length with h | h
          · exfalso
            apply h2
            have e0 : s0.has L.length 1 = ⟨0, (L.length : Int), 30⟩ := by
              unfold Rs.has s0
              rw [if_pos ⟨rfl, by simp only; omega⟩]
            have e1 : s0.byte L = ⟨0, (L.length : Int), 30⟩ := by
              unfold Rs.byte
              rw [e0, if_neg (by simp)]
            rw [e1, (Rs.num_stuck _ L (by simp)).1]
            simp
          · exact h
        have e0 : s0.has L.length 1 = s0 := by
          unfold Rs.has
          rw [if_neg (by show ¬ (_ ∧ L.length < 0 + 1); omega)]
        have hb1 : s0.byte L = ⟨1, 0, 0⟩ := by
          unfold Rs.byte
          rw [e0, if_pos (show s0.fe = 0 from rfl)]
          rfl
        have := Rs.num_at (s0.byte L) L (byte_fit s0 L (Nat.zero_le _))
        rw [hb1] at this
        rw [hb1] at hh
        simp only at this
        exact ⟨by omega, by omega, h0, by omega⟩
set_option maxHeartbeats 1600000 in
theorem read_any (a : Option Addr) (m c : Nat) (L : List Nat) (w : World) (hs : SrcB w a m L) (hmc : m ≤ c) (hm : m ≤ 281474976710656) :
    Calls Tryd.prog 49 #[.slice a m c] w (ReadP w L (readR L)) := by
  have hLm := hs.1
  have hb0 := below_new w (.cells #[.int .i64 0, .int .i64 0, .slice none 0 0] 51)
  have HF0 := hide (heap_last w (.cells #[.int .i64 0, .int .i64 0, .slice none 0 0] 51))
  have HB0 := hide hb0
  have HH := hide (head_any a m c L _ (hs.below hb0) hmc hm)
  have HS := hide hs
  clear hs hb0
  cases hR : headR L with
  | bad code place =>
    have e1 : readR L = .bad code place := by unfold readR; rw [hR]
    rw [e1]
    rw [hR] at HH
    clear e1 hR
    go_enter Tryd.func49, Tryd.ntmps49
    go_wp2_with fail
    generalize w.alloc (.cells #[.int .i64 0, .int .i64 0, .slice none 0 0] 51) = w1 at *
    refine HH.out.mono ?_
    rintro e w2 ⟨hb2, v, rfl, hf⟩
    have HB2 := hide (keepB hb2 (Nat.le_refl _) HB0.out)
    have HF2 := hide (below_blk hb2 (heap_lt HF0.out) HF0.out)
    have hlt1 : w.heap.size < w1.heap.size := heap_lt HF0.out
    have HFl := hide hf
    obtain ⟨b, T, fz, hv, hb, hbw⟩ := hf
    subst hv
    clear hb2 HH HF0 HB0 HS
    have hlt : w.heap.size < w2.heap.size := heap_lt HF2.out
    have f0 : w2.cell? ⟨w.heap.size, 0, none⟩ = some (.int .i64 0) := blk_cell HF2.out rfl
    have f1 : w2.cell? ⟨w.heap.size, 1, none⟩ = some (.int .i64 0) := blk_cell HF2.out rfl
    have f2 : w2.cell? ⟨w.heap.size, 2, none⟩ = some (.slice none 0 0) := blk_cell HF2.out rfl
    have z0 : w2.frozen? ⟨w.heap.size, 0, none⟩ = false := blk_free HF2.out
    have z1 : w2.frozen? ⟨w.heap.size, 1, none⟩ = false := blk_free HF2.out
    have z2 : w2.frozen? ⟨w.heap.size, 2, none⟩ = false := blk_free HF2.out
    have HB := hide hb
    clear hb
    go_wp2
    have HL := fin3o HF2.out HB2.out (.int .i64 0) (.int .i64 0) (.slice none 0 0) (.cells #[.int .i64 0, .int .i64 0, .slice none 0 0] 51)
    refine bodyPost_ret (v := .tuple #[zf, .int .i64 0, .iface 112 (.pointer (some ⟨b, 0, none⟩))]) ?_ rfl ⟨HL.2.1, _, rfl, b, T, fz, rfl, ?_, by omega⟩
    · simp [results, Tryd.results49, asAddr, HL.1]
    · exact heap_old (blk_set_other (blk_set_other (blk_set_other HB.out (by omega) _) (by omega) _) (by omega) _) _
  | ok k s h n =>
    obtain ⟨hh1, hh2, hh3, hh4⟩ := headR_ok hR
    rw [hLm] at hh1 hh3
    obtain ⟨ad, rfl⟩ : ∃ ad, a = some ad := by
      obtain ⟨_, _, bb, off, ha, _⟩ := HS.out
      exact ⟨_, ha hh3⟩
    rw [hR] at HH
    have hRe : readR L = if L.length < h + n then .bad 30 (L.length : Int) else .ok k s h n := by unfold readR; rw [hR]
    rw [hLm] at hRe
    by_cases hsh : m < h + n
    · rw [if_pos hsh] at hRe
      rw [hRe]
      have d1 : decide ((m : Int) - (h : Int) < (n : Int)) = true := by simp; omega
      clear hRe hR
      go_enter Tryd.func49, Tryd.ntmps49
      go_wp2_with fail
      generalize w.alloc (.cells #[.int .i64 0, .int .i64 0, .slice none 0 0] 51) = w1 at *
      refine HH.out.mono ?_
      rintro e w2 ⟨hb2, rfl⟩
      have HB2 := hide (keepB hb2 (Nat.le_refl _) HB0.out)
      have HF2 := hide (below_blk hb2 (heap_lt HF0.out) HF0.out)
      clear hb2 HH HF0 HB0 HS
      have HB3 := hide (keepB (below_new w2 (.cells #[.int .i64 (k : Int), .int .i64 (s : Int), .slice none 0 0] 51)) (Nat.le_refl _) HB2.out)
      have HF3 := hide (heap_old HF2.out (.cells #[.int .i64 (k : Int), .int .i64 (s : Int), .slice none 0 0] 51))
      go_upto_if 25 with (fail)
      generalize w2.alloc (.cells #[.int .i64 (k : Int), .int .i64 (s : Int), .slice none 0 0] 51) = w3 at *
      have hlt : w.heap.size < w3.heap.size := heap_lt HF3.out
      have f0 : w3.cell? ⟨w.heap.size, 0, none⟩ = some (.int .i64 0) := blk_cell HF3.out rfl
      have f1 : w3.cell? ⟨w.heap.size, 1, none⟩ = some (.int .i64 0) := blk_cell HF3.out rfl
      have f2 : w3.cell? ⟨w.heap.size, 2, none⟩ = some (.slice none 0 0) := blk_cell HF3.out rfl
      have z0 : w3.frozen? ⟨w.heap.size, 0, none⟩ = false := blk_free HF3.out
      have z1 : w3.frozen? ⟨w.heap.size, 1, none⟩ = false := blk_free HF3.out
      have z2 : w3.frozen? ⟨w.heap.size, 2, none⟩ = false := blk_free HF3.out
      clear HF2 HB2
      go_wp2
      have HL := fin3o HF3.out HB3.out (.int .i64 0) (.int .i64 0) (.slice none 0 0) (.cells #[.int .i64 (m : Int), .int .i64 30] 41)
      refine bodyPost_ret (v := .tuple #[zf, .int .i64 0, .iface 112 (.pointer (some ⟨w3.heap.size, 0, none⟩))]) ?_ rfl ⟨HL.2.1, _, rfl, w3.heap.size, _, _, rfl, HL.2.2, by omega⟩
      simp [results, Tryd.results49, asAddr, HL.1]
    · rw [if_neg hsh] at hRe
      rw [hRe]
      have d1 : decide ((m : Int) - (h : Int) < (n : Int)) = false := by simp; omega
      have Hsl : ∃ ad', Hid (∀ u : World, Sem.run Tryd.prog (Instr.slice 31 (.slice (some ad) m c) (some (.int .i64 (h : Int))) (some (.int .i64 ((h : Int) + (n : Int)))) none) u = .ok (.slice (some ad') n (c - h)) u) ∧ Hid (SrcB w (some ad') n ((L.drop h).take n)) := by
        have hsl := fun u : World => Ct.slice_mid u (some ad) m c h (h + n) (by omega) (by omega)
        have hms := src_mid HS.out h n (by omega)
        rw [show h + n - h = n by omega] at hsl
        by_cases hc : c = h
        · refine ⟨ad, fun u => ?_, ?_⟩
          · have := hsl u
            rw [if_pos hc] at this
            exact this
          · have hn0 : n = 0 := by omega
            subst hn0
            show SrcB _ _ _ _
            rw [List.take_zero]
            exact SrcB.nil _ _
        · refine ⟨ad.add h, fun u => ?_, hide (by simpa using hms)⟩
          have := hsl u
          rw [if_neg hc] at this
          exact this
      obtain ⟨ad', HSL, HSD⟩ := Hsl
      obtain ⟨D, hD⟩ : ∃ D, D = (L.drop h).take n := ⟨_, rfl⟩
      rw [← hD] at HSD
      have HDe := hide hD
      clear hD
      clear hRe hR
      go_enter Tryd.func49, Tryd.ntmps49
      go_wp2_with fail
      generalize w.alloc (.cells #[.int .i64 0, .int .i64 0, .slice none 0 0] 51) = w1 at *
      refine HH.out.mono ?_
      rintro e w2 ⟨hb2, rfl⟩
      have HB2 := hide (keepB hb2 (Nat.le_refl _) HB0.out)
      have HF2 := hide (below_blk hb2 (heap_lt HF0.out) HF0.out)
      clear hb2 HH HF0 HB0 HS
      have HB3 := hide (keepB (below_new w2 (.cells #[.int .i64 (k : Int), .int .i64 (s : Int), .slice none 0 0] 51)) (Nat.le_refl _) HB2.out)
      have HF3 := hide (heap_old HF2.out (.cells #[.int .i64 (k : Int), .int .i64 (s : Int), .slice none 0 0] 51))
      have HG3 := hide (heap_last w2 (.cells #[.int .i64 (k : Int), .int .i64 (s : Int), .slice none 0 0] 51))
      have hz2 : w.heap.size < w2.heap.size := heap_lt HF2.out
      go_upto_if 25 with (fail)
      generalize w2.alloc (.cells #[.int .i64 (k : Int), .int .i64 (s : Int), .slice none 0 0] 51) = w3 at *
      clear HF2 HB2
      have hsl := HSL.out
      go_wp2_with fail
      refine (clone_some ad' n (c - h) D w3 (HSD.out.below HB3.out) (by omega)).mono ?_
      rintro e w4 ⟨g, cap, rfl, hg, hd4, hb4⟩
      have hb34 := below_blk hb4 (heap_lt HG3.out) HG3.out
      have hr34 := below_blk hb4 (heap_lt HF3.out) HF3.out
      have HB4 := hide (keepB hb4 (Nat.le_refl _) HB3.out)
      have HD4 := hide hd4
      have hg3 : w2.heap.size < g := Nat.lt_of_lt_of_le (heap_lt HG3.out) hg
      clear hb4 hd4 hsl
      have x0 : w4.cell? ⟨w2.heap.size, 0, none⟩ = some (.int .i64 (k : Int)) := blk_cell hb34 rfl
      have x1 : w4.cell? ⟨w2.heap.size, 1, none⟩ = some (.int .i64 (s : Int)) := blk_cell hb34 rfl
      have x2 : w4.cell? ⟨w2.heap.size, 2, none⟩ = some (.slice none 0 0) := blk_cell hb34 rfl
      have y2 : w4.frozen? ⟨w2.heap.size, 2, none⟩ = false := blk_free hb34
      have r0 : w4.cell? ⟨w.heap.size, 0, none⟩ = some (.int .i64 0) := blk_cell hr34 rfl
      have r1 : w4.cell? ⟨w.heap.size, 1, none⟩ = some (.int .i64 0) := blk_cell hr34 rfl
      have r2 : w4.cell? ⟨w.heap.size, 2, none⟩ = some (.slice none 0 0) := blk_cell hr34 rfl
      have v0 : w4.frozen? ⟨w.heap.size, 0, none⟩ = false := blk_free hr34
      have v1 : w4.frozen? ⟨w.heap.size, 1, none⟩ = false := blk_free hr34
      have v2 : w4.frozen? ⟨w.heap.size, 2, none⟩ = false := blk_free hr34
      have HRb := hide hr34
      have HFb := hide hb34
      clear hr34 hb34
      have hne1 : w2.heap.size ≠ w.heap.size := by omega
      go_wp2_with fail
      obtain ⟨HL, HD5, HB5⟩ := Fd.fin_world (x := .int .i64 (k : Int)) (y := .int .i64 (s : Int)) HRb.out hz2 hg3 HD4.out HB4.out (.slice (some ⟨g, 0, none⟩) n cap)
      refine bodyPost_ret (v := .tuple #[.agg #[.int .i64 (k : Int), .int .i64 (s : Int), .slice (some ⟨g, 0, none⟩) n cap], .int .i64 ((h : Int) + (n : Int)), .nilIface]) ?_ rfl ⟨HB5, g, cap, rfl, by omega, by rw [← HDe.out]; exact HD5⟩
      simp [results, Tryd.results49, asAddr, HL]
end Go.Proofs.YtpaijhmbfljfmaaDoor.Fi
