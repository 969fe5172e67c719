/- frame.Read of good frames. -/
import Derived.Test.YtpaijhmbfljfmaaDoorFc
namespace Go.Proofs.YtpaijhmbfljfmaaDoor.Fd
set_option linter.unusedVariables false
set_option linter.unusedSimpArgs false
set_option maxRecDepth 100000
open Go.ChangeShapes Go.WideShapes Go.ChangeAt Go.RowKit
open Go.Proofs.YtpaijhmbfljfmaaDoor.Wu Go.Proofs.YtpaijhmbfljfmaaDoor.Sm Go.Proofs.YtpaijhmbfljfmaaDoor.Sh Go.Proofs.YtpaijhmbfljfmaaDoor.Ba Go.Proofs.YtpaijhmbfljfmaaDoor.Bp Go.Proofs.YtpaijhmbfljfmaaDoor.Bq Go.Proofs.YtpaijhmbfljfmaaDoor.Bz Go.Proofs.YtpaijhmbfljfmaaDoor.Cm Go.Proofs.YtpaijhmbfljfmaaDoor.Cn Go.Proofs.YtpaijhmbfljfmaaDoor.Cr Go.Proofs.YtpaijhmbfljfmaaDoor.Cs Go.Proofs.YtpaijhmbfljfmaaDoor.Rk Go.Proofs.YtpaijhmbfljfmaaDoor.Ct Go.Proofs.YtpaijhmbfljfmaaDoor.Fa Go.Proofs.YtpaijhmbfljfmaaDoor.Fc
attribute [local go_sem] kUpon_value kUpon_skip kUpon_enter
/-- A frame, and how many bytes it has. -/
def ReadOk (w : World) (k s : Nat) (D : List Nat) (e : Ending) (w' : World) : Prop :=
  ∃ g cap, e = .returned (.tuple #[.agg #[.int .i64 (k : Int), .int .i64 (s : Int), .slice (some ⟨g, 0, none⟩) D.length cap], .int .i64 ((frL k s D).length : Int), .nilIface]) ∧ w.heap.size ≤ g ∧ Dst w' g D.length cap D ∧ Below w.heap.size w w'
theorem src_drop {w : World} {ad : Addr} {m n : Nat} {A B : List Nat} (h : SrcB w (some ad) m (A ++ B)) (hA : A.length = n) (hm : 0 < m) : SrcB w (some (ad.add n)) (m - n) B := by
  obtain ⟨hl, h8, b, off, ha, hc⟩ := h
  have := ha hm
  injection this with this
  subst this
  rw [List.length_append] at hl
  refine ⟨by omega, fun x hx => h8 x (List.mem_append_right _ hx), b, off + n, fun _ => by rw [Addr.add_mid], fun i hi => ?_⟩
  have := hc (n + i) (by omega)
  rw [show off + n + i = off + (n + i) by omega, this]
  congr 3
  simp only [List.getD]
  rw [List.getElem?_append_right (by omega), show n + i - A.length = i by omega]
theorem src_front {w : World} {a : Option Addr} {m n : Nat} {A B : List Nat} (h : SrcB w a m (A ++ B)) (hA : A.length = n) : SrcB w a n A := by
  obtain ⟨hl, h8, b, off, ha, hc⟩ := h
  rw [List.length_append] at hl
  refine ⟨hA, fun x hx => h8 x (List.mem_append_left _ hx), b, off, fun h => ha (by omega), fun i hi => ?_⟩
  rw [hc i (by omega)]
  congr 3
  simp only [List.getD]
  rw [List.getElem?_append_left (by omega)]
theorem fin_world {w w4 : World} {FB g l cap : Nat} {D : List Nat} {x y a0 b0 c0 : Value} {T' : TypeId} {f' : Nat × Nat} (hR : w4.heap[w.heap.size]? = some (.cells #[a0, b0, c0] T' f')) (hlt : w.heap.size < FB) (hg : FB < g) (hd : Dst w4 g l cap D) (hb : Below w.heap.size w w4) (z : Value) :
    Sem.run Tryd.prog (loadVar 51 ⟨w.heap.size, 0, none⟩) ((((w4.setCell ⟨FB, 2, none⟩ z).setCell ⟨w.heap.size, 0, none⟩ x).setCell ⟨w.heap.size, 1, none⟩ y).setCell ⟨w.heap.size, 2, none⟩ z) = .ok (.agg #[x, y, z]) ((((w4.setCell ⟨FB, 2, none⟩ z).setCell ⟨w.heap.size, 0, none⟩ x).setCell ⟨w.heap.size, 1, none⟩ y).setCell ⟨w.heap.size, 2, none⟩ z) ∧
    Dst ((((w4.setCell ⟨FB, 2, none⟩ z).setCell ⟨w.heap.size, 0, none⟩ x).setCell ⟨w.heap.size, 1, none⟩ y).setCell ⟨w.heap.size, 2, none⟩ z) g l cap D ∧ Below w.heap.size w ((((w4.setCell ⟨FB, 2, none⟩ z).setCell ⟨w.heap.size, 0, none⟩ x).setCell ⟨w.heap.size, 1, none⟩ y).setCell ⟨w.heap.size, 2, none⟩ z) := by
  have g1 := grown_setCell (World.grownBy.refl w4 (some FB)) 2 z
  have hR1 := keepG g1 (by omega) hR
  have hd1 := hd.kept g1 (by omega)
  have hb1 := belowG hb g1 (by omega) hb.size
  generalize w4.setCell ⟨FB, 2, none⟩ z = w5 at *
  have g2 := grown_setCell (grown_setCell (grown_setCell (World.grownBy.refl w5 (some w.heap.size)) 0 x) 1 y) 2 z
  exact ⟨load_frame (set_frame hR1 x y z), hd1.kept g2 (by omega), belowG hb1 g2 (Nat.le_refl _) hb1.size⟩
set_option maxHeartbeats 1600000 in
set_option maxRecDepth 100000 in
theorem read_ok (k s : Nat) (D : List Nat) (ad : Addr) (m c : Nat) (R : List Nat) (w : World) (hs : SrcB w (some ad) m (frL k s D ++ R)) (hmc : m ≤ c) (hm : m ≤ 281474976710656) (hk1 : 1 ≤ k) (hk2 : k ≤ 31) (hs2 : s ≤ 7) (hl : D.length ≤ 16384) :
    Calls Tryd.prog 49 #[.slice (some ad) m c] w (ReadOk w k s D) := by
  have HS := hide hs
  have h6 := numL_six D.length (by omega)
  have hlen := hs.1
  have e0 : frL k s D ++ R = (8 * k + s) :: numL D.length ++ (D ++ R) := by unfold frL; simp
  rw [e0] at hs
  have HH := hide (fun u (hu : Below w.heap.size w u) => head_ok k s D.length ad m c (D ++ R) u (hs.below hu) hmc hm hk1 hk2 hs2 hl)
  clear hs
  obtain ⟨l, hlD⟩ : ∃ l, l = D.length := ⟨_, rfl⟩
  obtain ⟨q, hq⟩ : ∃ q, q = (numL D.length).length := ⟨_, rfl⟩
  have hfl : (frL k s D).length = 1 + q + l := by unfold frL; simp; omega
  rw [List.length_append, hfl] at hlen
  have Hfl := hide hfl
  clear hfl
  go_enter Tryd.func49, Tryd.ntmps49
  go_wp2_with fail
  have HF0 := hide (heap_last w (.cells #[.int .i64 0, .int .i64 0, .slice none 0 0] 51))
  have HB0 := hide (below_new w (.cells #[.int .i64 0, .int .i64 0, .slice none 0 0] 51))
  generalize w.alloc (.cells #[.int .i64 0, .int .i64 0, .slice none 0 0] 51) = w1 at *
  refine (HH.out w1 HB0.out).mono ?_
  rintro e w2 ⟨rfl, hb2⟩
  rw [← hq, ← hlD]
  have HB2 := hide (keepB hb2 (Nat.le_refl _) HB0.out)
  have HF2 := hide (below_blk hb2 (heap_lt HF0.out) HF0.out)
  clear hb2 HH HF0 HB0
  have HqD : Hid (q = (numL D.length).length) := hide hq
  have HlD := hide hlD
  rw [← hlD] at hl
  rw [← hq] at h6
  clear hlD hq
  have d1 : decide ((m : Int) - ((1 + q : Nat) : Int) < (l : Int)) = false := by simp; omega
  have hHD := src_front (src_drop (A := (8 * k + s) :: numL D.length) (B := D ++ R) (n := 1 + q) (by rw [← e0]; exact HS.out) (by have := HqD.out; have := HlD.out; simp only [List.length_cons]; omega) (by omega)) HlD.out.symm
  have HD0 := hide hHD
  have HD1 : Hid (l = 0 → SrcB w (some ad) l D) := hide (fun h => by
    obtain rfl : D = [] := List.length_eq_zero_iff.1 (by rw [← HlD.out]; exact h)
    rw [h]; exact SrcB.nil w _)
  clear hHD e0
  have hF3 := heap_last w2 (.cells #[.int .i64 (k : Int), .int .i64 (s : Int), .slice none 0 0] 51)
  have HF2' := hide (heap_old HF2.out (.cells #[.int .i64 (k : Int), .int .i64 (s : Int), .slice none 0 0] 51))
  have HB3 := hide (keepB (below_new w2 (.cells #[.int .i64 (k : Int), .int .i64 (s : Int), .slice none 0 0] 51)) (Nat.le_refl _) HB2.out)
  have HF3 := hide hF3
  clear hF3
  have hz2 : w.heap.size < w2.heap.size := heap_lt HF2.out
  go_wp2_with fail
  case inl =>
    have hc0 : l = 0 := by omega
    subst hc0
    refine (clone_some ad 0 0 D _ ((HD1.out rfl).below HB3.out) (by omega)).mono ?_
    generalize w2.alloc (.cells #[.int .i64 (k : Int), .int .i64 (s : Int), .slice none 0 0] 51) = w3 at *
    rintro e w4 ⟨g, cap, rfl, hg, hd4, hb4⟩
    have hb34 := below_blk hb4 (heap_lt HF3.out) HF3.out
    have hr34 := below_blk hb4 (heap_lt HF2'.out) HF2'.out
    have HB4 := hide (keepB hb4 (Nat.le_refl _) HB3.out)
    have HD4 := hide hd4
    have hg3 : w2.heap.size < g := Nat.lt_of_lt_of_le (heap_lt HF3.out) hg
    clear hb4 hd4
    have x0 : w4.cell? ⟨w2.heap.size, 0, none⟩ = some (.int .i64 (k : Int)) := blk_cell hb34 rfl
    have x1 : w4.cell? ⟨w2.heap.size, 1, none⟩ = some (.int .i64 (s : Int)) := blk_cell hb34 rfl
    have x2 : w4.cell? ⟨w2.heap.size, 2, none⟩ = some (.slice none 0 0) := blk_cell hb34 rfl
    have y2 : w4.frozen? ⟨w2.heap.size, 2, none⟩ = false := blk_free hb34
    have r0 : w4.cell? ⟨w.heap.size, 0, none⟩ = some (.int .i64 0) := blk_cell hr34 rfl
    have r1 : w4.cell? ⟨w.heap.size, 1, none⟩ = some (.int .i64 0) := blk_cell hr34 rfl
    have r2 : w4.cell? ⟨w.heap.size, 2, none⟩ = some (.slice none 0 0) := blk_cell hr34 rfl
    have v0 : w4.frozen? ⟨w.heap.size, 0, none⟩ = false := blk_free hr34
    have v1 : w4.frozen? ⟨w.heap.size, 1, none⟩ = false := blk_free hr34
    have v2 : w4.frozen? ⟨w.heap.size, 2, none⟩ = false := blk_free hr34
    have HRb := hide hr34
    have HFb := hide hb34
    clear hr34 hb34
    have hne1 : w2.heap.size ≠ w.heap.size := by omega
    go_wp2_with fail
    obtain ⟨HL, HD5, HB5⟩ := fin_world (x := .int .i64 (k : Int)) (y := .int .i64 (s : Int)) HRb.out hz2 hg3 HD4.out HB4.out (.slice (some ⟨g, 0, none⟩) 0 cap)
    have Hn : Hid ((1 + (q : Int)) = ((frL k s D).length : Int)) := hide (by rw [Hfl.out]; omega)
    refine bodyPost_ret (v := .tuple #[.agg #[.int .i64 (k : Int), .int .i64 (s : Int), .slice (some ⟨g, 0, none⟩) 0 cap], .int .i64 (1 + (q : Int)), .nilIface]) ?_ rfl ⟨g, cap, by rw [Hn.out, ← HlD.out], by omega, by rw [← HlD.out]; exact HD5, HB5⟩
    simp [results, Tryd.results49, asAddr, HL]
  case inr =>
    refine (clone_some (ad.add (1 + q)) l (c - (1 + q)) D _ (HD0.out.below HB3.out) (by omega)).mono ?_
    generalize w2.alloc (.cells #[.int .i64 (k : Int), .int .i64 (s : Int), .slice none 0 0] 51) = w3 at *
    rintro e w4 ⟨g, cap, rfl, hg, hd4, hb4⟩
    have hb34 := below_blk hb4 (heap_lt HF3.out) HF3.out
    have hr34 := below_blk hb4 (heap_lt HF2'.out) HF2'.out
    have HB4 := hide (keepB hb4 (Nat.le_refl _) HB3.out)
    have HD4 := hide hd4
    have hg3 : w2.heap.size < g := Nat.lt_of_lt_of_le (heap_lt HF3.out) hg
    clear hb4 hd4
    have x0 : w4.cell? ⟨w2.heap.size, 0, none⟩ = some (.int .i64 (k : Int)) := blk_cell hb34 rfl
    have x1 : w4.cell? ⟨w2.heap.size, 1, none⟩ = some (.int .i64 (s : Int)) := blk_cell hb34 rfl
    have x2 : w4.cell? ⟨w2.heap.size, 2, none⟩ = some (.slice none 0 0) := blk_cell hb34 rfl
    have y2 : w4.frozen? ⟨w2.heap.size, 2, none⟩ = false := blk_free hb34
    have r0 : w4.cell? ⟨w.heap.size, 0, none⟩ = some (.int .i64 0) := blk_cell hr34 rfl
    have r1 : w4.cell? ⟨w.heap.size, 1, none⟩ = some (.int .i64 0) := blk_cell hr34 rfl
    have r2 : w4.cell? ⟨w.heap.size, 2, none⟩ = some (.slice none 0 0) := blk_cell hr34 rfl
    have v0 : w4.frozen? ⟨w.heap.size, 0, none⟩ = false := blk_free hr34
    have v1 : w4.frozen? ⟨w.heap.size, 1, none⟩ = false := blk_free hr34
    have v2 : w4.frozen? ⟨w.heap.size, 2, none⟩ = false := blk_free hr34
    have HRb := hide hr34
    have HFb := hide hb34
    clear hr34 hb34
    have hne1 : w2.heap.size ≠ w.heap.size := by omega
    go_wp2_with fail
    obtain ⟨HL, HD5, HB5⟩ := fin_world (x := .int .i64 (k : Int)) (y := .int .i64 (s : Int)) HRb.out hz2 hg3 HD4.out HB4.out (.slice (some ⟨g, 0, none⟩) l cap)
    have Hn : Hid ((1 + (q : Int) + (l : Int)) = ((frL k s D).length : Int)) := hide (by rw [Hfl.out]; omega)
    refine bodyPost_ret (v := .tuple #[.agg #[.int .i64 (k : Int), .int .i64 (s : Int), .slice (some ⟨g, 0, none⟩) l cap], .int .i64 (1 + (q : Int) + (l : Int)), .nilIface]) ?_ rfl ⟨g, cap, by rw [Hn.out, ← HlD.out], by omega, by rw [← HlD.out]; exact HD5, HB5⟩
    simp [results, Tryd.results49, asAddr, HL]
end Go.Proofs.YtpaijhmbfljfmaaDoor.Fd
