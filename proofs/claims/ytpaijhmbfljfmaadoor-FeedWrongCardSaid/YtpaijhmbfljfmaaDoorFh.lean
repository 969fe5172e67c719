/- frame.Head and frame.Read of any bytes. -/
import Derived.Test.YtpaijhmbfljfmaaDoorCz
import Derived.Test.YtpaijhmbfljfmaaDoorFd
namespace Go.Proofs.YtpaijhmbfljfmaaDoor.Fh
set_option linter.unusedVariables false
set_option linter.unusedSimpArgs false
set_option maxRecDepth 100000
open Go.ChangeShapes Go.WideShapes Go.ChangeAt Go.RowKit
open Go.Proofs.YtpaijhmbfljfmaaDoor.Wu Go.Proofs.YtpaijhmbfljfmaaDoor.Sm Go.Proofs.YtpaijhmbfljfmaaDoor.Sh Go.Proofs.YtpaijhmbfljfmaaDoor.Ba Go.Proofs.YtpaijhmbfljfmaaDoor.Bp Go.Proofs.YtpaijhmbfljfmaaDoor.Cr Go.Proofs.YtpaijhmbfljfmaaDoor.Er Go.Proofs.YtpaijhmbfljfmaaDoor.Eu Go.Proofs.YtpaijhmbfljfmaaDoor.Cv Go.Proofs.YtpaijhmbfljfmaaDoor.Cw Go.Proofs.YtpaijhmbfljfmaaDoor.Cz
/-- What the bytes at a frame's beginning come to. -/
inductive HR where
  | bad (code place : Int)
  | ok (k s h n : Nat)
def s0 : Rs := ⟨0, 0, 0⟩
def headR (L : List Nat) : HR :=
  if 0 < L.length ∧ s0.byteV L < 8 then .bad 40 0
  else if ((s0.byte L).num L).fe ≠ 0 then .bad ((s0.byte L).num L).fe ((s0.byte L).num L).fa
  else if 16384 < (s0.byte L).numV L then .bad 2 1
  else .ok (s0.byteV L / 8) (s0.byteV L % 8) ((s0.byte L).num L).at_ ((s0.byte L).numV L)
abbrev zf : Value := .agg #[.int .i64 0, .int .i64 0, .slice none 0 0]
/-- An error in a block of its own. -/
def Flt (w : World) (code place : Int) (v : Value) (w' : World) : Prop := ∃ b T f, v = .iface 112 (.pointer (some ⟨b, 0, none⟩)) ∧ w'.heap[b]? = some (.cells #[.int .i64 place, .int .i64 code] T f) ∧ w.heap.size ≤ b
theorem Flt.isErr {w w' : World} {code place : Int} {v : Value} (h : Flt w code place v w') : IsErr w' v code place := by
  obtain ⟨b, T, f, h1, h2, _⟩ := h
  exact .inr (.inr ⟨b, T, f, h1, h2⟩)
theorem Flt.below {w w' w'' : World} {code place : Int} {v : Value} (h : Flt w code place v w') (hb : Below w'.heap.size w' w'') : Flt w code place v w'' := by
  obtain ⟨b, T, f, h1, h2, h3⟩ := h
  exact ⟨b, T, f, h1, below_blk hb (heap_lt h2) h2, h3⟩
def HeadP (w : World) (R : HR) (e : Ending) (w' : World) : Prop :=
  Below w.heap.size w w' ∧ match R with
  | .bad code place => ∃ v, e = .returned (.tuple #[zf, .int .i64 0, .int .i64 0, v]) ∧ Flt w code place v w'
  | .ok k s h n => e = .returned (.tuple #[.agg #[.int .i64 (k : Int), .int .i64 (s : Int), .slice none 0 0], .int .i64 (h : Int), .int .i64 (n : Int), .nilIface])
theorem byteV_lt (s : Rs) (L : List Nat) (h8 : All8 L) : s.byteV L < 256 := by
  unfold Rs.byteV
  split
  · exact all8_getD h8 _
  · omega
theorem byte_fit (s : Rs) (L : List Nat) (h : s.at_ ≤ L.length) : (s.byte L).at_ ≤ L.length := by
  unfold Rs.byte Rs.has
  by_cases hc : s.fe = 0 ∧ L.length < s.at_ + 1
  · rw [if_pos hc, if_neg (by simp)]; exact h
  · rw [if_neg hc]
    split <;> first | (simp only; omega) | omega
theorem fin3 {w w5 : World} {x y z : Value} (hF : w5.heap[w.heap.size]? = some (.cells #[x, y, z] 51 (0, 0))) (hb : Below w.heap.size w w5) (a b c : Value) :
    Sem.run Tryd.prog (loadVar 51 ⟨w.heap.size, 0, none⟩) (((w5.setCell ⟨w.heap.size, 0, none⟩ a).setCell ⟨w.heap.size, 1, none⟩ b).setCell ⟨w.heap.size, 2, none⟩ c) = .ok (.agg #[a, b, c]) (((w5.setCell ⟨w.heap.size, 0, none⟩ a).setCell ⟨w.heap.size, 1, none⟩ b).setCell ⟨w.heap.size, 2, none⟩ c) ∧
    Below w.heap.size w (((w5.setCell ⟨w.heap.size, 0, none⟩ a).setCell ⟨w.heap.size, 1, none⟩ b).setCell ⟨w.heap.size, 2, none⟩ c) :=
  ⟨Fc.load_frame (Fc.set_frame hF a b c), below_set3 hb (Nat.le_refl _) a b c⟩
theorem fin3o {w w5 : World} {x y z : Value} (hF : w5.heap[w.heap.size]? = some (.cells #[x, y, z] 51 (0, 0))) (hb : Below w.heap.size w w5) (a b c : Value) (o : Obj) :
    Sem.run Tryd.prog (loadVar 51 ⟨w.heap.size, 0, none⟩) ((((w5.setCell ⟨w.heap.size, 0, none⟩ a).setCell ⟨w.heap.size, 1, none⟩ b).setCell ⟨w.heap.size, 2, none⟩ c).alloc o) = .ok (.agg #[a, b, c]) ((((w5.setCell ⟨w.heap.size, 0, none⟩ a).setCell ⟨w.heap.size, 1, none⟩ b).setCell ⟨w.heap.size, 2, none⟩ c).alloc o) ∧
    Below w.heap.size w ((((w5.setCell ⟨w.heap.size, 0, none⟩ a).setCell ⟨w.heap.size, 1, none⟩ b).setCell ⟨w.heap.size, 2, none⟩ c).alloc o) ∧
    ((((w5.setCell ⟨w.heap.size, 0, none⟩ a).setCell ⟨w.heap.size, 1, none⟩ b).setCell ⟨w.heap.size, 2, none⟩ c).alloc o).heap[w5.heap.size]? = some o := by
  have h1 := below_set3 hb (Nat.le_refl _) a b c
  refine ⟨Fc.load_frame (heap_old (Fc.set_frame hF a b c) o), h1.alloc h1.size o, ?_⟩
  have := heap_last (((w5.setCell ⟨w.heap.size, 0, none⟩ a).setCell ⟨w.heap.size, 1, none⟩ b).setCell ⟨w.heap.size, 2, none⟩ c) o
  rwa [show (((w5.setCell ⟨w.heap.size, 0, none⟩ a).setCell ⟨w.heap.size, 1, none⟩ b).setCell ⟨w.heap.size, 2, none⟩ c).heap.size = w5.heap.size by simp [World.setCell]] at this
set_option maxHeartbeats 1600000 in
theorem head_any (a : Option Addr) (m c : Nat) (L : List Nat) (w : World) (hs : SrcB w a m L) (hmc : m ≤ c) (hm : m ≤ 281474976710656) :
    Calls Tryd.prog 89 #[.slice a m c] w (HeadP w (headR L)) := by
  have hLm := hs.1
  have hbv := byteV_lt s0 L hs.2.1
  have hf1 := byte_fit s0 L (Nat.zero_le _)
  have hnm := Rs.numV_max (s0.byte L) L
  have HS := hide hs
  clear hs
  have hb0 := below_new w (.cells #[.int .i64 0, .int .i64 0, .slice none 0 0] 51)
  have HF0 := hide (heap_last w (.cells #[.int .i64 0, .int .i64 0, .slice none 0 0] 51))
  have HV0 := hide (RV.read (c := c) (HS.out.below hb0) hb0)
  have HF1 := hide (heap_old HF0.out (.cells #[.slice a m c, .int .i64 0, .int .i64 0, .int .i64 0] 144))
  have hz0 : (w.alloc (.cells #[.int .i64 0, .int .i64 0, .slice none 0 0] 51)).heap.size = w.heap.size + 1 := by simp
  rw [hz0] at HV0
  clear hb0 HF0 HS
  go_enter Tryd.func89, Tryd.ntmps89
  go_wp2_with fail
  refine (read_c a m c _).mono ?_
  rintro e w2 ⟨rfl, rfl⟩
  generalize (w.alloc (.cells #[.int .i64 0, .int .i64 0, .slice none 0 0] 51)).alloc (.cells #[.slice a m c, .int .i64 0, .int .i64 0, .int .i64 0] 144) = w2 at *
  rw [hz0]
  clear hz0
  go_wp2_with fail
  refine (byte_c (w.heap.size + 1) a m c L s0 w2 HV0.out.rd HV0.out.src HV0.out.apart (Nat.zero_le _) hmc hm).mono ?_
  rintro e w3 ⟨rfl, hr, hg⟩
  have HV3 := hide (HV0.out.step hr hg)
  have HF3 := hide (keepG hg (by omega) HF1.out)
  clear hr hg HV0 HF1
  obtain ⟨x, hx⟩ : ∃ x, x = s0.byteV L := ⟨_, rfl⟩
  rw [← hx] at hbv ⊢
  have Hx := hide hx
  clear hx
  go_wp2_with fail
  refine (num_c (w.heap.size + 1) a m c L (s0.byte L) w3 HV3.out.rd HV3.out.src (by omega) hmc hm).mono ?_
  rintro e w4 ⟨rfl, hr, hg⟩
  have HV4 := hide (HV3.out.step hr hg)
  have HF4 := hide (keepG hg (by omega) HF3.out)
  clear hr hg HV3 HF3
  obtain ⟨n, hn⟩ : ∃ n, n = (s0.byte L).numV L := ⟨_, rfl⟩
  rw [← hn] at hnm ⊢
  have Hn := hide hn
  clear hn
  obtain ⟨s2, hs2⟩ : ∃ s2, s2 = (s0.byte L).num L := ⟨_, rfl⟩
  rw [← hs2] at HV4
  have Hs2 := hide hs2
  clear hs2
  go_wp2_with fail
  refine (err_c (w.heap.size + 1) a m c s2 w4 HV4.out.rd).mono ?_
  rintro e w5 ⟨v5, rfl, hor, hb5⟩
  have HV5 := hide (HV4.out.up hb5)
  have HF5 := hide (below_blk hb5 (heap_lt HF4.out) HF4.out)
  have h45 := HV4.out.below.size
  have hlt4 : w.heap.size < w4.heap.size := heap_lt HF4.out
  have Hor := hide hor
  clear hb5 HV4 HF4 hor
  have f0 : w5.cell? ⟨w.heap.size, 0, none⟩ = some (.int .i64 0) := blk_cell HF5.out rfl
  have f1 : w5.cell? ⟨w.heap.size, 1, none⟩ = some (.int .i64 0) := blk_cell HF5.out rfl
  have f2 : w5.cell? ⟨w.heap.size, 2, none⟩ = some (.slice none 0 0) := blk_cell HF5.out rfl
  have z0 : w5.frozen? ⟨w.heap.size, 0, none⟩ = false := blk_free HF5.out
  have z1 : w5.frozen? ⟨w.heap.size, 1, none⟩ = false := blk_free HF5.out
  have z2 : w5.frozen? ⟨w.heap.size, 2, none⟩ = false := blk_free HF5.out
  have hlt : w.heap.size < w5.heap.size := heap_lt HF5.out
  by_cases h8 : 0 < m ∧ x < 8
  · have d1 : decide ((0 : Int) < (m : Int)) = true := by simp; omega
    have d1' : decide (0 < m) = true := by simp; omega
    have d2 : decide ((x : Int) < 8) = true := by simp; omega
    have d2' : decide (x < 8) = true := by simp; omega
    have HR : Hid (headR L = .bad 40 0) := by show _ = _; unfold headR; rw [if_pos (by rw [hLm, ← Hx.out]; exact h8)]
    clear h8
    go_wp2
    have HL := fin3o HF5.out HV5.out.below (.int .i64 0) (.int .i64 0) (.slice none 0 0) (.cells #[.int .i64 0, .int .i64 40] 41)
    rw [HR.out]
    refine bodyPost_ret (v := .tuple #[zf, .int .i64 0, .int .i64 0, .iface 112 (.pointer (some ⟨w5.heap.size, 0, none⟩))]) ?_ rfl ⟨HL.2.1, _, rfl, w5.heap.size, _, _, rfl, HL.2.2, HV5.out.below.size⟩
    simp [results, Tryd.results89, asAddr, HL.1]
  · have hcs : (decide ((0 : Int) < (m : Int)) = true ∧ decide (0 < m) = true ∧ decide ((x : Int) < 8) = false ∧ decide (x < 8) = false) ∨ (decide ((0 : Int) < (m : Int)) = false ∧ decide (0 < m) = false ∧ True ∧ True) := by
      by_cases h0 : 0 < m
      · left; exact ⟨by simp; omega, by simp; omega, by simp; omega, by simp; omega⟩
      · right; exact ⟨by simp; omega, by simp; omega, trivial, trivial⟩
    have HR1 : Hid (headR L = (if s2.fe ≠ 0 then .bad s2.fe s2.fa else if 16384 < n then .bad 2 1 else .ok (x / 8) (x % 8) s2.at_ n)) := by
      show _ = _
      unfold headR
      rw [if_neg (by rw [hLm, ← Hx.out]; exact h8), ← Hs2.out, ← Hn.out, ← Hx.out]
    have H8 := hide h8
    clear h8
    by_cases hfe : s2.fe = 0
    · obtain rfl : v5 = .nilIface := by
        rcases Hor.out with h | h
        · exact h.2
        · exact absurd hfe h.1
      have hR1 := HR1.out
      rw [if_neg (fun h => h hfe)] at hR1
      by_cases hbig : 16384 < n
      · rw [if_pos hbig] at hR1
        have HR := hide hR1
        have d3 : decide ((16384 : Int) < (n : Int)) = true := by simp; omega
        have d3' : decide (16384 < n) = true := by simp; omega
        clear hR1 HR1 hfe
        rcases hcs with ⟨d1, d1', d2, d2'⟩ | ⟨d1, d1', d2, d2'⟩
        all_goals
          go_wp2
          have HL := fin3o HF5.out HV5.out.below (.int .i64 0) (.int .i64 0) (.slice none 0 0) (.cells #[.int .i64 1, .int .i64 2] 41)
          rw [HR.out]
          refine bodyPost_ret (v := .tuple #[zf, .int .i64 0, .int .i64 0, .iface 112 (.pointer (some ⟨w5.heap.size, 0, none⟩))]) ?_ rfl ⟨HL.2.1, _, rfl, w5.heap.size, _, _, rfl, HL.2.2, HV5.out.below.size⟩
          simp [results, Tryd.results89, asAddr, HL.1]
      · rw [if_neg hbig] at hR1
        have HR := hide hR1
        have d3 : decide ((16384 : Int) < (n : Int)) = false := by simp; omega
        have d3' : decide (16384 < n) = false := by simp; omega
        clear hR1 HR1 hfe
        rcases hcs with ⟨d1, d1', d2, d2'⟩ | ⟨d1, d1', d2, d2'⟩
        all_goals
          go_wp2_with fail
          refine (at_c (w.heap.size + 1) a m c s2 w5 HV5.out.rd).mono ?_
          rintro e w6 ⟨rfl, rfl⟩
          go_wp2
          have HL := fin3 HF5.out HV5.out.below (.int .i64 ((x : Int) / 8)) (.int .i64 ((x : Int) % 8)) (.slice none 0 0)
          rw [HR.out]
          refine bodyPost_ret (v := .tuple #[.agg #[.int .i64 ((x : Int) / 8), .int .i64 ((x : Int) % 8), .slice none 0 0], .int .i64 (s2.at_ : Int), .int .i64 (n : Int), .nilIface]) ?_ rfl ⟨HL.2, rfl⟩
          simp [results, Tryd.results89, asAddr, HL.1]
    · have hR1 := HR1.out
      rw [if_pos hfe] at hR1
      have HR := hide hR1
      obtain ⟨hv5, hb5⟩ : v5 = .iface 112 (.pointer (some ⟨w4.heap.size, 0, none⟩)) ∧ w5.heap[w4.heap.size]? = some (.cells #[.int .i64 s2.fa, .int .i64 s2.fe] 41 (0, 0)) := by
        rcases Hor.out with h | h
        · exact absurd h.1 hfe
        · exact h.2
      subst hv5
      have HB5 := hide hb5
      clear hR1 HR1 hfe hb5 Hor
      rcases hcs with ⟨d1, d1', d2, d2'⟩ | ⟨d1, d1', d2, d2'⟩
      all_goals
        go_wp2
        have HL := fin3 HF5.out HV5.out.below (.int .i64 0) (.int .i64 0) (.slice none 0 0)
        rw [HR.out]
        refine bodyPost_ret (v := .tuple #[zf, .int .i64 0, .int .i64 0, .iface 112 (.pointer (some ⟨w4.heap.size, 0, none⟩))]) ?_ rfl ⟨HL.2, _, rfl, w4.heap.size, 41, (0, 0), rfl, ?_, h45⟩
        · simp [results, Tryd.results89, asAddr, HL.1]
        · exact blk_set_other (blk_set_other (blk_set_other HB5.out (by omega) _) (by omega) _) (by omega) _
end Go.Proofs.YtpaijhmbfljfmaaDoor.Fh
