/- The reference's reader (layer 3): Number. -/
import Derived.Test.YtkinpbhbgeiflaaDoorRa
import Derived.Test.YtkinpbhbgeiflaaDoorCs
import Derived.Test.YtkinpbhbgeiflaaDoorCw
namespace Go.Proofs.YtkinpbhbgeiflaaDoor.Rb
set_option linter.unusedVariables false
set_option linter.unusedSimpArgs false
set_option maxRecDepth 100000
open Go.ChangeShapes Go.WideShapes Go.ChangeAt Go.RowKit
open Go.Proofs.YtkinpbhbgeiflaaDoor.Wu Go.Proofs.YtkinpbhbgeiflaaDoor.Sm Go.Proofs.YtkinpbhbgeiflaaDoor.Sh Go.Proofs.YtkinpbhbgeiflaaDoor.Ba Go.Proofs.YtkinpbhbgeiflaaDoor.Bs Go.Proofs.YtkinpbhbgeiflaaDoor.Cr Go.Proofs.YtkinpbhbgeiflaaDoor.Cs Go.Proofs.YtkinpbhbgeiflaaDoor.Ra
/-- What the reference's Number leaves. -/
def NumQ (w : World) (L : List Nat) (from_ : Nat) (bad : Int) (R : NumR) (e : Ending) (w' : World) : Prop :=
  Below w.heap.size w w' ∧ match R with
  | .ok n k => e = .returned (.tuple #[qv L ((from_ + k : Nat) : Int) 0 bad, .int .i64 (n : Int)])
  | .bad code => ∃ at_ : Int, e = .returned (.tuple #[qv L at_ (code : Int) (if code = 30 then (L.length : Int) else (from_ : Int)), .int .i64 0])
theorem number_no (L : List Nat) (at_ code bad : Int) (w : World) (h : (code != 0) = true) :
    Calls Tryd.prog 68 #[qv L at_ code bad] w fun e w' => e = .returned (.tuple #[qv L at_ code bad, .int .i64 0]) ∧ Below w.heap.size w w' := by
  go_enter Tryd.func68, Tryd.ntmps68
  go_wp2
  have HL := load4 (heap_2b w (.cells #[.string (strN L), .int .i64 at_, .int .i64 code, .int .i64 bad] 141) (.cells #[.string (strN L), .int .i64 at_, .int .i64 code, .int .i64 bad] 141))
  refine bodyPost_ret (v := .tuple #[qv L at_ code bad, .int .i64 0]) ?_ rfl ⟨rfl, below2 _ _ _⟩
  simp [results, Tryd.results68, HL, asAddr]
abbrev rc : TypeId := 141
/-- The reader's variable and the result's. -/
structure Two (w : World) (L : List Nat) (at_ code bad : Int) (wr : World) : Prop where
  r : wr.heap[w.heap.size]? = some (.cells #[.string (strN L), .int .i64 at_, .int .i64 code, .int .i64 bad] 141 (0, 0))
  o : wr.heap[w.heap.size + 1]? = some (.cells #[.string ⟨#[]⟩, .int .i64 0, .int .i64 0, .int .i64 0] 141 (0, 0))
  b : Below w.heap.size w wr
theorem Two.up {w wr w' : World} {L : List Nat} {at_ code bad : Int} (h : Two w L at_ code bad wr) (hb : Below wr.heap.size wr w') : Two w L at_ code bad w' :=
  ⟨below_blk hb (heap_lt h.r) h.r, below_blk hb (heap_lt h.o) h.o, keepB hb (Nat.le_refl _) h.b⟩
theorem Two.set {w wr : World} {L : List Nat} {at_ code bad : Int} (h : Two w L at_ code bad wr) (a' c' b' : Int) : Two w L a' c' b' ((((wr.setCell ⟨w.heap.size, 0, none⟩ (.string (strN L))).setCell ⟨w.heap.size, 1, none⟩ (.int .i64 a')).setCell ⟨w.heap.size, 2, none⟩ (.int .i64 c')).setCell ⟨w.heap.size, 3, none⟩ (.int .i64 b')) :=
  ⟨set4 h.r _ _ _ _, keepG (grown4 wr w.heap.size _ _ _ _) (by omega) h.o, belowG h.b (grown4 wr w.heap.size _ _ _ _) (Nat.le_refl _) h.b.size⟩
/-- The end: the result's variable holds what is answered. -/
theorem Two.res {w wr : World} {L : List Nat} {at_ code bad : Int} (h : Two w L at_ code bad wr) (a' c' b' : Int) :
    Sem.run Tryd.prog (loadVar 141 ⟨w.heap.size + 1, 0, none⟩) ((((wr.setCell ⟨w.heap.size + 1, 0, none⟩ (.string (strN L))).setCell ⟨w.heap.size + 1, 1, none⟩ (.int .i64 a')).setCell ⟨w.heap.size + 1, 2, none⟩ (.int .i64 c')).setCell ⟨w.heap.size + 1, 3, none⟩ (.int .i64 b')) = .ok (qv L a' c' b') ((((wr.setCell ⟨w.heap.size + 1, 0, none⟩ (.string (strN L))).setCell ⟨w.heap.size + 1, 1, none⟩ (.int .i64 a')).setCell ⟨w.heap.size + 1, 2, none⟩ (.int .i64 c')).setCell ⟨w.heap.size + 1, 3, none⟩ (.int .i64 b')) ∧
    Below w.heap.size w ((((wr.setCell ⟨w.heap.size + 1, 0, none⟩ (.string (strN L))).setCell ⟨w.heap.size + 1, 1, none⟩ (.int .i64 a')).setCell ⟨w.heap.size + 1, 2, none⟩ (.int .i64 c')).setCell ⟨w.heap.size + 1, 3, none⟩ (.int .i64 b')) :=
  ⟨load4 (set4 h.o _ _ _ _), belowG h.b (grown4 wr (w.heap.size + 1) _ _ _ _) (by omega) h.b.size⟩
set_option maxHeartbeats 3200000 in
theorem number_c (L : List Nat) (at_ : Nat) (bad : Int) (w : World) (R : NumR) (h8 : All8 L) (hat : at_ ≤ L.length) (hm : L.length ≤ 281474976710656) (hR : numP (L.drop at_) 0 0 = R) :
    Calls Tryd.prog 68 #[qv L (at_ : Int) 0 bad] w (NumQ w L at_ bad R) := by
  have HX := hide h8
  have HR := hide hR
  clear h8 hR
  have HT0 : Hid (Two w L (at_ : Int) 0 bad ((w.alloc (.cells #[.string (strN L), .int .i64 (at_ : Int), .int .i64 0, .int .i64 bad] 141)).alloc (.cells #[.string ⟨#[]⟩, .int .i64 0, .int .i64 0, .int .i64 0] 141))) := hide ⟨heap_2a _ _ _, heap_2b _ _ _, below2 _ _ _⟩
  go_enter Tryd.func68, Tryd.ntmps68
  go_wp2_with fail
  generalize ((w.alloc (.cells #[.string (strN L), .int .i64 (at_ : Int), .int .i64 0, .int .i64 bad] 141)).alloc (.cells #[.string ⟨#[]⟩, .int .i64 0, .int .i64 0, .int .i64 0] 141)) = w0 at *
  go_loopw [5, 6, 7] (fun n place k wr => ∃ j acc p : Nat, n = .int .i64 (acc : Int) ∧ place = .int .i64 (p : Int) ∧ k = .int .i64 (j : Int) ∧ j ≤ 6 ∧ at_ + j ≤ L.length ∧ p = 2 ^ (7 * j) ∧ acc < 2 ^ (7 * j) ∧ numP (L.drop (at_ + j)) j acc = R ∧ Two w L ((at_ + j : Nat) : Int) 0 bad wr) (fun _ _ k _ => 6 - (intOf k).toNat)
  case atStart => exact ⟨0, 0, 1, rfl, rfl, rfl, by omega, by omega, by simp, by simp, HR.out, HT0.out⟩
  case round =>
    clear HT0 HR
    obtain ⟨j, acc, p, rfl, rfl, rfl, hj, hjl, hp, hacc, hnum, ht⟩ := hrel
    have HT := hide ht
    have HN := hide hnum
    have hpb := pow_le hj
    rw [← hp] at hacc hpb
    have HP := hide hp
    clear ht hnum hp
    obtain ⟨q, hq⟩ : ∃ q, q = at_ + j := ⟨_, rfl⟩
    rw [← hq] at HT HN hjl
    have Hq := hide hq
    clear hq
    obtain ⟨c0, c1, c2, c3, f0, f1, f2, f3⟩ := blk4 HT.out.r
    by_cases hj6 : j < 6
    · have d1 : decide ((j : Int) < 6) = true := by simp; omega
      by_cases hend : q < L.length
      · have hx8 := all8_getD HX.out q
        have HB := hide (fun u => byte_ok L q bad u HX.out hend hm)
        have hdr : L.drop q = L.getD q 0 :: L.drop (q + 1) := by rw [List.drop_eq_getElem_cons hend]; simp [List.getD, hend]
        have hN := HN.out
        rw [hdr] at hN
        clear HN hdr
        generalize L.getD q 0 = x at *
        have HN := hide hN
        clear hN
        go_wp2_with fail
        refine (HB.out _).mono ?_
        rintro e w1 ⟨rfl, hb⟩
        have HT1 := hide (HT.out.up hb)
        have hlt : w.heap.size < w1.heap.size := heap_lt HT1.out.r
        clear hb HB c0 c1 c2 c3 f0 f1 f2 f3 HT
        obtain ⟨c0, c1, c2, c3, f0, f1, f2, f3⟩ := blk4 HT1.out.r
        obtain ⟨r0, r1, r2, r3, g0, g1, g2, g3⟩ := blk4 HT1.out.o
        go_upto_if 28 with (fail)
        have HT2 := hide ((HT1.out.set ((q : Int) + 1) 0 bad).up (below_new _ (.cells #[.string (strN L), .int .i64 ((q : Int) + 1), .int .i64 0, .int .i64 bad] 141)))
        generalize (((((w1.setCell ⟨w.heap.size, 0, none⟩ (.string (strN L))).setCell ⟨w.heap.size, 1, none⟩ (.int .i64 ((q : Int) + 1))).setCell ⟨w.heap.size, 2, none⟩ (.int .i64 0)).setCell ⟨w.heap.size, 3, none⟩ (.int .i64 bad)).alloc (.cells #[.string (strN L), .int .i64 ((q : Int) + 1), .int .i64 0, .int .i64 bad] 141)) = w2 at *
        clear c0 c1 c2 c3 f0 f1 f2 f3 r0 r1 r2 r3 g0 g1 g2 g3 HT1 hlt
        obtain ⟨c0, c1, c2, c3, f0, f1, f2, f3⟩ := blk4 HT2.out.r
        obtain ⟨r0, r1, r2, r3, g0, g1, g2, g3⟩ := blk4 HT2.out.o
        by_cases hform : 0 < j ∧ x = 0
        · have hN := HN.out
          unfold numP at hN
          rw [if_pos (.inr hform)] at hN
          subst hN
          have e1 : ((x : Int) == 0) = true := by simp; omega
          have e1' : (x == 0) = true := by simp; omega
          have e2 : decide ((0 : Int) < (j : Int)) = true := by simp; omega
          have e2' : decide (0 < j) = true := by simp; omega
          clear hform HN
          go_wp2_with fail
          refine (fail_c L ((q : Int) + 1) 0 bad (at_ : Int) 31 w2).mono ?_
          rintro e w3 ⟨rfl, hb⟩
          have HT3 := hide (HT2.out.up hb)
          clear hb c0 c1 c2 c3 f0 f1 f2 f3 r0 r1 r2 r3 g0 g1 g2 g3 HT2
          obtain ⟨r0, r1, r2, r3, g0, g1, g2, g3⟩ := blk4 HT3.out.o
          go_wp2
          have HL := HT3.out.res ((q : Int) + 1) 31 (at_ : Int)
          refine bodyPost_ret (v := .tuple #[qv L ((q : Int) + 1) 31 (at_ : Int), .int .i64 0]) ?_ rfl ⟨HL.2, _, rfl⟩
          simp [results, Tryd.results68, HL.1, asAddr]
        · have hN := HN.out
          unfold numP at hN
          rw [if_neg (by omega)] at hN
          have hst := step_lt (x := x) (HP.out ▸ hacc)
          have hp2 := pow_le (k := j + 1) (by omega)
          rw [← HP.out] at hN hst
          obtain ⟨y, hy⟩ : ∃ y, y = x % 128 * p := ⟨_, rfl⟩
          rw [← hy] at hN hst
          have hyb : y ≤ 4398046511104 := by omega
          have HWR : Hid (wrap64 ((acc : Int) + wrap64 ((x : Int) % 128 * (p : Int))) = (acc : Int) + (y : Int)) := by
            show _ = _
            have e : (x : Int) % 128 * (p : Int) = (y : Int) := by rw [hy, Int.natCast_mul, Int.natCast_emod]; rfl
            rw [e, IntWalk.wrap64_in (y : Int) (by omega), IntWalk.wrap64_in _ (by omega)]
          have Hst := hide hst
          have HN2 := hide hN
          have Hp2 : Hid (p * 128 = 2 ^ (7 * (j + 1))) := by show _ = _; rw [HP.out, pow7]; omega
          have hp42 : p * 128 ≤ 4398046511104 := by rw [Hp2.out]; exact hp2
          have hcs : (((x : Int) == 0) = false ∧ (x == 0) = false ∧ True) ∨ (((x : Int) == 0) = true ∧ (x == 0) = true ∧ decide ((0 : Int) < (j : Int)) = false ∧ decide (0 < j) = false) := by
            by_cases hx0 : x = 0
            · right; refine ⟨by simp; omega, by simp; omega, by simp; omega, by simp; omega⟩
            · left; exact ⟨by simp; omega, by simp; omega, trivial⟩
          have Hy := hide hy
          have Hform := hide hform
          clear hN HN hst hy hform hp2
          by_cases hbig : 128 ≤ x
          · have hN := HN2.out
            rw [if_pos hbig] at hN
            have HN := hide hN
            have b1 : decide ((x : Int) < 128) = false := by simp; omega
            have b1' : decide (x < 128) = false := by simp; omega
            clear hN HN2
            rcases hcs with ⟨q1, q2, q3⟩ | ⟨q1, q2, q3, q4⟩
            · go_wp2
              go_roundw
              case rel => exact ⟨j + 1, acc + y, p * 128, congrArg (Value.int .i64) (by rw [HWR.out]; omega), congrArg (Value.int .i64) (by omega), by go_num, by omega, by have := Hq.out; omega, Hp2.out, Hst.out, by rw [← Nat.add_assoc, ← Hq.out]; exact HN.out, by rw [← Nat.add_assoc, ← Hq.out]; exact HT2.out⟩
              case measure => simp [intOf]; omega
            · exfalso; simp only [beq_iff_eq] at q2; omega
          · have hN := HN2.out
            rw [if_neg hbig] at hN
            have b1 : decide ((x : Int) < 128) = true := by simp; omega
            have b1' : decide (x < 128) = true := by simp; omega
            by_cases hr : 1099511627776 < acc + y
            · rw [if_pos hr] at hN
              subst hN
              have k1 : decide ((1099511627776 : Int) < (acc : Int) + (y : Int)) = true := by simp; omega
              clear HN2
              rcases hcs with ⟨q1, q2, q3⟩ | ⟨q1, q2, q3, q4⟩
              all_goals
                go_upto_if 50 with (fail)
                rw [HWR.out]
                go_wp2_with fail
                refine (fail_c L ((q : Int) + 1) 0 bad (at_ : Int) 1 w2).mono ?_
                rintro e w3 ⟨rfl, hb⟩
                have HT3 := hide (HT2.out.up hb)
                clear hb c0 c1 c2 c3 f0 f1 f2 f3 r0 r1 r2 r3 g0 g1 g2 g3 HT2
                obtain ⟨r0, r1, r2, r3, g0, g1, g2, g3⟩ := blk4 HT3.out.o
                go_wp2
                have HL := HT3.out.res ((q : Int) + 1) 1 (at_ : Int)
                refine bodyPost_ret (v := .tuple #[qv L ((q : Int) + 1) 1 (at_ : Int), .int .i64 0]) ?_ rfl ⟨HL.2, _, rfl⟩
                simp [results, Tryd.results68, HL.1, asAddr]
            · rw [if_neg hr] at hN
              subst hN
              have k1 : decide ((1099511627776 : Int) < (acc : Int) + (y : Int)) = false := by simp; omega
              clear HN2
              rcases hcs with ⟨q1, q2, q3⟩ | ⟨q1, q2, q3, q4⟩
              all_goals
                go_upto_if 50 with (fail)
                rw [HWR.out]
                go_wp2
                have HL := HT2.out.res ((q : Int) + 1) 0 bad
                refine bodyPost_ret (v := .tuple #[qv L ((q : Int) + 1) 0 bad, .int .i64 ((acc : Int) + (y : Int))]) ?_ rfl ⟨HL.2, ?_⟩
                · simp [results, Tryd.results68, HL.1, asAddr]
                · show _ = Ending.returned (.tuple #[qv L ((at_ + (j + 1) : Nat) : Int) 0 bad, .int .i64 ((acc + y : Nat) : Int)])
                  rw [show ((at_ + (j + 1) : Nat) : Int) = (q : Int) + 1 by have := Hq.out; omega, show ((acc + y : Nat) : Int) = (acc : Int) + (y : Int) by omega]
      · have hql : q = L.length := by omega
        have HB := hide (fun u => byte_end L q bad u (by omega) (by omega))
        have hN := HN.out
        rw [hql, List.drop_eq_nil_of_le (Nat.le_refl _)] at hN
        have hN2 : NumR.bad 30 = R := hN
        subst hN2
        have Hql := hide hql
        clear hN HN hql
        go_wp2_with fail
        refine (HB.out _).mono ?_
        rintro e w1 ⟨rfl, hb⟩
        have HT1 := hide (HT.out.up hb)
        have hlt : w.heap.size < w1.heap.size := heap_lt HT1.out.r
        clear hb HB c0 c1 c2 c3 f0 f1 f2 f3 HT
        obtain ⟨c0, c1, c2, c3, f0, f1, f2, f3⟩ := blk4 HT1.out.r
        obtain ⟨r0, r1, r2, r3, g0, g1, g2, g3⟩ := blk4 HT1.out.o
        go_upto_if 28 with (fail)
        have HT2 := hide ((HT1.out.set (q : Int) 30 (q : Int)).up (below_new _ (.cells #[.string (strN L), .int .i64 (q : Int), .int .i64 30, .int .i64 (q : Int)] 141)))
        generalize (((((w1.setCell ⟨w.heap.size, 0, none⟩ (.string (strN L))).setCell ⟨w.heap.size, 1, none⟩ (.int .i64 (q : Int))).setCell ⟨w.heap.size, 2, none⟩ (.int .i64 30)).setCell ⟨w.heap.size, 3, none⟩ (.int .i64 (q : Int))).alloc (.cells #[.string (strN L), .int .i64 (q : Int), .int .i64 30, .int .i64 (q : Int)] 141)) = w2 at *
        clear c0 c1 c2 c3 f0 f1 f2 f3 r0 r1 r2 r3 g0 g1 g2 g3 HT1 hlt
        obtain ⟨c0, c1, c2, c3, f0, f1, f2, f3⟩ := blk4 HT2.out.r
        obtain ⟨r0, r1, r2, r3, g0, g1, g2, g3⟩ := blk4 HT2.out.o
        go_wp2
        have HL := HT2.out.res (q : Int) 30 (q : Int)
        refine bodyPost_ret (v := .tuple #[qv L (q : Int) 30 (q : Int), .int .i64 0]) ?_ rfl ⟨HL.2, (q : Int), by rw [if_pos rfl, ← Hql.out]; rfl⟩
        simp [results, Tryd.results68, HL.1, asAddr]
    · have hj6' : j = 6 := by omega
      subst hj6'
      have d1 : decide (((6 : Nat) : Int) < 6) = false := by simp
      clear hj6 hj
      by_cases hend : q < L.length
      · have HB := hide (fun u => byte_ok L q bad u HX.out hend hm)
        have hdr : L.drop q = L.getD q 0 :: L.drop (q + 1) := by rw [List.drop_eq_getElem_cons hend]; simp [List.getD, hend]
        have hN := HN.out
        rw [hdr] at hN
        unfold numP at hN
        rw [if_pos (.inl rfl)] at hN
        subst hN
        clear HN hdr
        generalize L.getD q 0 = x at *
        go_wp2_with fail
        refine (HB.out _).mono ?_
        rintro e w1 ⟨rfl, hb⟩
        have HT1 := hide (HT.out.up hb)
        have hlt : w.heap.size < w1.heap.size := heap_lt HT1.out.r
        clear hb HB c0 c1 c2 c3 f0 f1 f2 f3 HT
        obtain ⟨c0, c1, c2, c3, f0, f1, f2, f3⟩ := blk4 HT1.out.r
        obtain ⟨r0, r1, r2, r3, g0, g1, g2, g3⟩ := blk4 HT1.out.o
        go_upto_if 63 with (fail)
        have HT2 := hide (HT1.out.set ((q : Int) + 1) 0 bad)
        generalize ((((w1.setCell ⟨w.heap.size, 0, none⟩ (.string (strN L))).setCell ⟨w.heap.size, 1, none⟩ (.int .i64 ((q : Int) + 1))).setCell ⟨w.heap.size, 2, none⟩ (.int .i64 0)).setCell ⟨w.heap.size, 3, none⟩ (.int .i64 bad)) = w2 at *
        clear c0 c1 c2 c3 f0 f1 f2 f3 r0 r1 r2 r3 g0 g1 g2 g3 HT1 hlt
        obtain ⟨c0, c1, c2, c3, f0, f1, f2, f3⟩ := blk4 HT2.out.r
        obtain ⟨r0, r1, r2, r3, g0, g1, g2, g3⟩ := blk4 HT2.out.o
        go_wp2_with fail
        refine (fail_c L ((q : Int) + 1) 0 bad (at_ : Int) 31 w2).mono ?_
        rintro e w3 ⟨rfl, hb⟩
        have HT3 := hide (HT2.out.up hb)
        clear hb c0 c1 c2 c3 f0 f1 f2 f3 r0 r1 r2 r3 g0 g1 g2 g3 HT2
        obtain ⟨r0, r1, r2, r3, g0, g1, g2, g3⟩ := blk4 HT3.out.o
        go_wp2
        have HL := HT3.out.res ((q : Int) + 1) 31 (at_ : Int)
        refine bodyPost_ret (v := .tuple #[qv L ((q : Int) + 1) 31 (at_ : Int), .int .i64 0]) ?_ rfl ⟨HL.2, _, rfl⟩
        simp [results, Tryd.results68, HL.1, asAddr]
      · have hql : q = L.length := by omega
        have HB := hide (fun u => byte_end L q bad u (by omega) (by omega))
        have hN := HN.out
        rw [hql, List.drop_eq_nil_of_le (Nat.le_refl _)] at hN
        have hN2 : NumR.bad 30 = R := hN
        subst hN2
        have Hql := hide hql
        clear hN HN hql
        go_wp2_with fail
        refine (HB.out _).mono ?_
        rintro e w1 ⟨rfl, hb⟩
        have HT1 := hide (HT.out.up hb)
        have hlt : w.heap.size < w1.heap.size := heap_lt HT1.out.r
        clear hb HB c0 c1 c2 c3 f0 f1 f2 f3 HT
        obtain ⟨c0, c1, c2, c3, f0, f1, f2, f3⟩ := blk4 HT1.out.r
        obtain ⟨r0, r1, r2, r3, g0, g1, g2, g3⟩ := blk4 HT1.out.o
        go_upto_if 63 with (fail)
        have HT2 := hide (HT1.out.set (q : Int) 30 (q : Int))
        generalize ((((w1.setCell ⟨w.heap.size, 0, none⟩ (.string (strN L))).setCell ⟨w.heap.size, 1, none⟩ (.int .i64 (q : Int))).setCell ⟨w.heap.size, 2, none⟩ (.int .i64 30)).setCell ⟨w.heap.size, 3, none⟩ (.int .i64 (q : Int))) = w2 at *
        clear c0 c1 c2 c3 f0 f1 f2 f3 r0 r1 r2 r3 g0 g1 g2 g3 HT1 hlt
        obtain ⟨c0, c1, c2, c3, f0, f1, f2, f3⟩ := blk4 HT2.out.r
        obtain ⟨r0, r1, r2, r3, g0, g1, g2, g3⟩ := blk4 HT2.out.o
        go_wp2
        have HL := HT2.out.res (q : Int) 30 (q : Int)
        refine bodyPost_ret (v := .tuple #[qv L (q : Int) 30 (q : Int), .int .i64 0]) ?_ rfl ⟨HL.2, (q : Int), by rw [if_pos rfl, ← Hql.out]; rfl⟩
        simp [results, Tryd.results68, HL.1, asAddr]
end Go.Proofs.YtkinpbhbgeiflaaDoor.Rb
