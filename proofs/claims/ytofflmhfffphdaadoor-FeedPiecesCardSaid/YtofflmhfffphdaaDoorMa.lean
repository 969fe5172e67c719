/- Several texts, one behind the other. -/
import Derived.Test.YtofflmhfffphdaaDoorRa
import Derived.Test.YtofflmhfffphdaaDoorCs
import Derived.Test.YtofflmhfffphdaaDoorCw
import Derived.Test.YtofflmhfffphdaaDoorCz
import Derived.Test.YtofflmhfffphdaaDoorRk
import Derived.Test.YtofflmhfffphdaaDoorWu
import Derived.Deep.MidRow
import Derived.Test.YtofflmhfffphdaaDoorFi
import Derived.Test.YtofflmhfffphdaaDoorFp
import Derived.Test.YtofflmhfffphdaaDoorRg
import Derived.Test.YtofflmhfffphdaaDoorGa
import Derived.Maps.AppendAt
import Derived.OwnWalk
import Derived.Test.YtofflmhfffphdaaDoorFc
import Derived.Test.YtofflmhfffphdaaDoorBs
import Derived.Test.YtofflmhfffphdaaDoorBa
import Derived.ProofKit
import Derived.OpenShut
import Derived.Deep.Slices
import Derived.Test.YtofflmhfffphdaaDoorGi
import Derived.Laws.Concat
import Derived.Laws.StructEq
/- The reference's reader (layer 3): Number. -/
namespace Go.Proofs.YtofflmhfffphdaaDoor.Rb
set_option linter.unusedVariables false
set_option linter.unusedSimpArgs false
set_option maxRecDepth 100000
open Go.ChangeShapes Go.WideShapes Go.ChangeAt Go.RowKit
open Go.Proofs.YtofflmhfffphdaaDoor.Wu Go.Proofs.YtofflmhfffphdaaDoor.Sm Go.Proofs.YtofflmhfffphdaaDoor.Sh Go.Proofs.YtofflmhfffphdaaDoor.Ba Go.Proofs.YtofflmhfffphdaaDoor.Bs Go.Proofs.YtofflmhfffphdaaDoor.Cr Go.Proofs.YtofflmhfffphdaaDoor.Cs Go.Proofs.YtofflmhfffphdaaDoor.Ra
/-- What the reference's Number leaves. -/
def NumQ (w : World) (L : List Nat) (from_ : Nat) (bad : Int) (R : NumR) (e : Ending) (w' : World) : Prop :=
  Below w.heap.size w w' ∧ match R with
  | .ok n k => e = .returned (.tuple #[qv L ((from_ + k : Nat) : Int) 0 bad, .int .i64 (n : Int)])
  | .bad code => ∃ at_ : Int, e = .returned (.tuple #[qv L at_ (code : Int) (if code = 30 then (L.length : Int) else (from_ : Int)), .int .i64 0])
theorem number_no (L : List Nat) (at_ code bad : Int) (w : World) (h : (code != 0) = true) :
    Calls Tryd.prog 56 #[qv L at_ code bad] w fun e w' => e = .returned (.tuple #[qv L at_ code bad, .int .i64 0]) ∧ Below w.heap.size w w' := by
  go_enter Tryd.func56, Tryd.ntmps56
  go_wp2
  have HL := load4 (heap_2b w (.cells #[.string (strN L), .int .i64 at_, .int .i64 code, .int .i64 bad] 111) (.cells #[.string (strN L), .int .i64 at_, .int .i64 code, .int .i64 bad] 111))
  refine bodyPost_ret (v := .tuple #[qv L at_ code bad, .int .i64 0]) ?_ rfl ⟨rfl, below2 _ _ _⟩
  simp [results, Tryd.results56, HL, asAddr]
abbrev rc : TypeId := 111
/-- The reader's variable and the result's. -/
structure Two (w : World) (L : List Nat) (at_ code bad : Int) (wr : World) : Prop where
  r : wr.heap[w.heap.size]? = some (.cells #[.string (strN L), .int .i64 at_, .int .i64 code, .int .i64 bad] 111 (0, 0))
  o : wr.heap[w.heap.size + 1]? = some (.cells #[.string ⟨#[]⟩, .int .i64 0, .int .i64 0, .int .i64 0] 111 (0, 0))
  b : Below w.heap.size w wr
theorem Two.up {w wr w' : World} {L : List Nat} {at_ code bad : Int} (h : Two w L at_ code bad wr) (hb : Below wr.heap.size wr w') : Two w L at_ code bad w' :=
  ⟨below_blk hb (heap_lt h.r) h.r, below_blk hb (heap_lt h.o) h.o, keepB hb (Nat.le_refl _) h.b⟩
theorem Two.set {w wr : World} {L : List Nat} {at_ code bad : Int} (h : Two w L at_ code bad wr) (a' c' b' : Int) : Two w L a' c' b' ((((wr.setCell ⟨w.heap.size, 0, none⟩ (.string (strN L))).setCell ⟨w.heap.size, 1, none⟩ (.int .i64 a')).setCell ⟨w.heap.size, 2, none⟩ (.int .i64 c')).setCell ⟨w.heap.size, 3, none⟩ (.int .i64 b')) :=
  ⟨set4 h.r _ _ _ _, keepG (grown4 wr w.heap.size _ _ _ _) (by omega) h.o, belowG h.b (grown4 wr w.heap.size _ _ _ _) (Nat.le_refl _) h.b.size⟩
/-- The end: the result's variable holds what is answered. -/
theorem Two.res {w wr : World} {L : List Nat} {at_ code bad : Int} (h : Two w L at_ code bad wr) (a' c' b' : Int) :
    Sem.run Tryd.prog (loadVar 111 ⟨w.heap.size + 1, 0, none⟩) ((((wr.setCell ⟨w.heap.size + 1, 0, none⟩ (.string (strN L))).setCell ⟨w.heap.size + 1, 1, none⟩ (.int .i64 a')).setCell ⟨w.heap.size + 1, 2, none⟩ (.int .i64 c')).setCell ⟨w.heap.size + 1, 3, none⟩ (.int .i64 b')) = .ok (qv L a' c' b') ((((wr.setCell ⟨w.heap.size + 1, 0, none⟩ (.string (strN L))).setCell ⟨w.heap.size + 1, 1, none⟩ (.int .i64 a')).setCell ⟨w.heap.size + 1, 2, none⟩ (.int .i64 c')).setCell ⟨w.heap.size + 1, 3, none⟩ (.int .i64 b')) ∧
    Below w.heap.size w ((((wr.setCell ⟨w.heap.size + 1, 0, none⟩ (.string (strN L))).setCell ⟨w.heap.size + 1, 1, none⟩ (.int .i64 a')).setCell ⟨w.heap.size + 1, 2, none⟩ (.int .i64 c')).setCell ⟨w.heap.size + 1, 3, none⟩ (.int .i64 b')) :=
  ⟨load4 (set4 h.o _ _ _ _), belowG h.b (grown4 wr (w.heap.size + 1) _ _ _ _) (by omega) h.b.size⟩
set_option maxHeartbeats 3200000 in
theorem number_c (L : List Nat) (at_ : Nat) (bad : Int) (w : World) (R : NumR) (h8 : All8 L) (hat : at_ ≤ L.length) (hm : L.length ≤ 281474976710656) (hR : numP (L.drop at_) 0 0 = R) :
    Calls Tryd.prog 56 #[qv L (at_ : Int) 0 bad] w (NumQ w L at_ bad R) := by
  have HX := hide h8
  have HR := hide hR
  clear h8 hR
  have HT0 : Hid (Two w L (at_ : Int) 0 bad ((w.alloc (.cells #[.string (strN L), .int .i64 (at_ : Int), .int .i64 0, .int .i64 bad] 111)).alloc (.cells #[.string ⟨#[]⟩, .int .i64 0, .int .i64 0, .int .i64 0] 111))) := hide ⟨heap_2a _ _ _, heap_2b _ _ _, below2 _ _ _⟩
  go_enter Tryd.func56, Tryd.ntmps56
  go_wp2_with fail
  generalize ((w.alloc (.cells #[.string (strN L), .int .i64 (at_ : Int), .int .i64 0, .int .i64 bad] 111)).alloc (.cells #[.string ⟨#[]⟩, .int .i64 0, .int .i64 0, .int .i64 0] 111)) = w0 at *
  go_loopw [5, 6, 7] (fun n place k wr => ∃ j acc p : Nat, n = .int .i64 (acc : Int) ∧ place = .int .i64 (p : Int) ∧ k = .int .i64 (j : Int) ∧ j ≤ 6 ∧ at_ + j ≤ L.length ∧ p = 2 ^ (7 * j) ∧ acc < 2 ^ (7 * j) ∧ numP (L.drop (at_ + j)) j acc = R ∧ Two w L ((at_ + j : Nat) : Int) 0 bad wr) (fun _ _ k _ => 6 - (intOf k).toNat)
  case atStart => exact ⟨0, 0, 1, rfl, rfl, rfl, by omega, by omega, by simp, by simp, HR.out, HT0.out⟩
  case round =>
    clear HT0 HR
    obtain ⟨j, acc, p, rfl, rfl, rfl, hj, hjl, hp, hacc, hnum, ht⟩ := hrel
    have HT := hide ht
    have HN := hide hnum
    have hpb := pow_le hj
    rw [← hp] at hacc hpb
    have HP := hide hp
    clear ht hnum hp
    obtain ⟨q, hq⟩ : ∃ q, q = at_ + j := ⟨_, rfl⟩
    rw [← hq] at HT HN hjl
    have Hq := hide hq
    clear hq
    obtain ⟨c0, c1, c2, c3, f0, f1, f2, f3⟩ := blk4 HT.out.r
    by_cases hj6 : j < 6
    · have d1 : decide ((j : Int) < 6) = true := by simp; omega
      by_cases hend : q < L.length
      · have hx8 := all8_getD HX.out q
        have HB := hide (fun u => byte_ok L q bad u HX.out hend hm)
        have hdr : L.drop q = L.getD q 0 :: L.drop (q + 1) := by rw [List.drop_eq_getElem_cons hend]; simp [List.getD, hend]
        have hN := HN.out
        rw [hdr] at hN
        clear HN hdr
        generalize L.getD q 0 = x at *
        have HN := hide hN
        clear hN
        go_wp2_with fail
        refine (HB.out _).mono ?_
        rintro e w1 ⟨rfl, hb⟩
        have HT1 := hide (HT.out.up hb)
        have hlt : w.heap.size < w1.heap.size := heap_lt HT1.out.r
        clear hb HB c0 c1 c2 c3 f0 f1 f2 f3 HT
        obtain ⟨c0, c1, c2, c3, f0, f1, f2, f3⟩ := blk4 HT1.out.r
        obtain ⟨r0, r1, r2, r3, g0, g1, g2, g3⟩ := blk4 HT1.out.o
        go_upto_if 28 with (fail)
        have HT2 := hide ((HT1.out.set ((q : Int) + 1) 0 bad).up (below_new _ (.cells #[.string (strN L), .int .i64 ((q : Int) + 1), .int .i64 0, .int .i64 bad] 111)))
        generalize (((((w1.setCell ⟨w.heap.size, 0, none⟩ (.string (strN L))).setCell ⟨w.heap.size, 1, none⟩ (.int .i64 ((q : Int) + 1))).setCell ⟨w.heap.size, 2, none⟩ (.int .i64 0)).setCell ⟨w.heap.size, 3, none⟩ (.int .i64 bad)).alloc (.cells #[.string (strN L), .int .i64 ((q : Int) + 1), .int .i64 0, .int .i64 bad] 111)) = w2 at *
        clear c0 c1 c2 c3 f0 f1 f2 f3 r0 r1 r2 r3 g0 g1 g2 g3 HT1 hlt
        obtain ⟨c0, c1, c2, c3, f0, f1, f2, f3⟩ := blk4 HT2.out.r
        obtain ⟨r0, r1, r2, r3, g0, g1, g2, g3⟩ := blk4 HT2.out.o
        by_cases hform : 0 < j ∧ x = 0
        · have hN := HN.out
          unfold numP at hN
          rw [if_pos (.inr hform)] at hN
          subst hN
          have e1 : ((x : Int) == 0) = true := by simp; omega
          have e1' : (x == 0) = true := by simp; omega
          have e2 : decide ((0 : Int) < (j : Int)) = true := by simp; omega
          have e2' : decide (0 < j) = true := by simp; omega
          clear hform HN
          go_wp2_with fail
          refine (fail_c L ((q : Int) + 1) 0 bad (at_ : Int) 31 w2).mono ?_
          rintro e w3 ⟨rfl, hb⟩
          have HT3 := hide (HT2.out.up hb)
          clear hb c0 c1 c2 c3 f0 f1 f2 f3 r0 r1 r2 r3 g0 g1 g2 g3 HT2
          obtain ⟨r0, r1, r2, r3, g0, g1, g2, g3⟩ := blk4 HT3.out.o
          go_wp2
          have HL := HT3.out.res ((q : Int) + 1) 31 (at_ : Int)
          refine bodyPost_ret (v := .tuple #[qv L ((q : Int) + 1) 31 (at_ : Int), .int .i64 0]) ?_ rfl ⟨HL.2, _, rfl⟩
          simp [results, Tryd.results56, HL.1, asAddr]
        · have hN := HN.out
          unfold numP at hN
          rw [if_neg (by omega)] at hN
          have hst := step_lt (x := x) (HP.out ▸ hacc)
          have hp2 := pow_le (k := j + 1) (by omega)
          rw [← HP.out] at hN hst
          obtain ⟨y, hy⟩ : ∃ y, y = x % 128 * p := ⟨_, rfl⟩
          rw [← hy] at hN hst
          have hyb : y ≤ 4398046511104 := by omega
          have HWR : Hid (wrap64 ((acc : Int) + wrap64 ((x : Int) % 128 * (p : Int))) = (acc : Int) + (y : Int)) := by
            show _ = _
            have e : (x : Int) % 128 * (p : Int) = (y : Int) := by rw [hy, Int.natCast_mul, Int.natCast_emod]; rfl
            rw [e, IntWalk.wrap64_in (y : Int) (by omega), IntWalk.wrap64_in _ (by omega)]
          have Hst := hide hst
          have HN2 := hide hN
          have Hp2 : Hid (p * 128 = 2 ^ (7 * (j + 1))) := by show _ = _; rw [HP.out, pow7]; omega
          have hp42 : p * 128 ≤ 4398046511104 := by rw [Hp2.out]; exact hp2
          have hcs : (((x : Int) == 0) = false ∧ (x == 0) = false ∧ True) ∨ (((x : Int) == 0) = true ∧ (x == 0) = true ∧ decide ((0 : Int) < (j : Int)) = false ∧ decide (0 < j) = false) := by
            by_cases hx0 : x = 0
            · right; refine ⟨by simp; omega, by simp; omega, by simp; omega, by simp; omega⟩
            · left; exact ⟨by simp; omega, by simp; omega, trivial⟩
          have Hy := hide hy
          have Hform := hide hform
          clear hN HN hst hy hform hp2
          by_cases hbig : 128 ≤ x
          · have hN := HN2.out
            rw [if_pos hbig] at hN
            have HN := hide hN
            have b1 : decide ((x : Int) < 128) = false := by simp; omega
            have b1' : decide (x < 128) = false := by simp; omega
            clear hN HN2
            rcases hcs with ⟨q1, q2, q3⟩ | ⟨q1, q2, q3, q4⟩
            · go_wp2
              go_roundw
              case rel => exact ⟨j + 1, acc + y, p * 128, congrArg (Value.int .i64) (by rw [HWR.out]; omega), congrArg (Value.int .i64) (by omega), by go_num, by omega, by have := Hq.out; omega, Hp2.out, Hst.out, by rw [← Nat.add_assoc, ← Hq.out]; exact HN.out, by rw [← Nat.add_assoc, ← Hq.out]; exact HT2.out⟩
              case measure => simp [intOf]; omega
            · exfalso; simp only [beq_iff_eq] at q2; omega
          · have hN := HN2.out
            rw [if_neg hbig] at hN
            have b1 : decide ((x : Int) < 128) = true := by simp; omega
            have b1' : decide (x < 128) = true := by simp; omega
            by_cases hr : 1099511627776 < acc + y
            · rw [if_pos hr] at hN
              subst hN
              have k1 : decide ((1099511627776 : Int) < (acc : Int) + (y : Int)) = true := by simp; omega
              clear HN2
              rcases hcs with ⟨q1, q2, q3⟩ | ⟨q1, q2, q3, q4⟩
              all_goals
                go_upto_if 50 with (fail)
                rw [HWR.out]
                go_wp2_with fail
                refine (fail_c L ((q : Int) + 1) 0 bad (at_ : Int) 1 w2).mono ?_
                rintro e w3 ⟨rfl, hb⟩
                have HT3 := hide (HT2.out.up hb)
                clear hb c0 c1 c2 c3 f0 f1 f2 f3 r0 r1 r2 r3 g0 g1 g2 g3 HT2
                obtain ⟨r0, r1, r2, r3, g0, g1, g2, g3⟩ := blk4 HT3.out.o
                go_wp2
                have HL := HT3.out.res ((q : Int) + 1) 1 (at_ : Int)
                refine bodyPost_ret (v := .tuple #[qv L ((q : Int) + 1) 1 (at_ : Int), .int .i64 0]) ?_ rfl ⟨HL.2, _, rfl⟩
                simp [results, Tryd.results56, HL.1, asAddr]
            · rw [if_neg hr] at hN
              subst hN
              have k1 : decide ((1099511627776 : Int) < (acc : Int) + (y : Int)) = false := by simp; omega
              clear HN2
              rcases hcs with ⟨q1, q2, q3⟩ | ⟨q1, q2, q3, q4⟩
              all_goals
                go_upto_if 50 with (fail)
                rw [HWR.out]
                go_wp2
                have HL := HT2.out.res ((q : Int) + 1) 0 bad
                refine bodyPost_ret (v := .tuple #[qv L ((q : Int) + 1) 0 bad, .int .i64 ((acc : Int) + (y : Int))]) ?_ rfl ⟨HL.2, ?_⟩
                · simp [results, Tryd.results56, HL.1, asAddr]
                · show _ = Ending.returned (.tuple #[qv L ((at_ + (j + 1) : Nat) : Int) 0 bad, .int .i64 ((acc + y : Nat) : Int)])
                  rw [show ((at_ + (j + 1) : Nat) : Int) = (q : Int) + 1 by have := Hq.out; omega, show ((acc + y : Nat) : Int) = (acc : Int) + (y : Int) by omega]
      · have hql : q = L.length := by omega
        have HB := hide (fun u => byte_end L q bad u (by omega) (by omega))
        have hN := HN.out
        rw [hql, List.drop_eq_nil_of_le (Nat.le_refl _)] at hN
        have hN2 : NumR.bad 30 = R := hN
        subst hN2
        have Hql := hide hql
        clear hN HN hql
        go_wp2_with fail
        refine (HB.out _).mono ?_
        rintro e w1 ⟨rfl, hb⟩
        have HT1 := hide (HT.out.up hb)
        have hlt : w.heap.size < w1.heap.size := heap_lt HT1.out.r
        clear hb HB c0 c1 c2 c3 f0 f1 f2 f3 HT
        obtain ⟨c0, c1, c2, c3, f0, f1, f2, f3⟩ := blk4 HT1.out.r
        obtain ⟨r0, r1, r2, r3, g0, g1, g2, g3⟩ := blk4 HT1.out.o
        go_upto_if 28 with (fail)
        have HT2 := hide ((HT1.out.set (q : Int) 30 (q : Int)).up (below_new _ (.cells #[.string (strN L), .int .i64 (q : Int), .int .i64 30, .int .i64 (q : Int)] 111)))
        generalize (((((w1.setCell ⟨w.heap.size, 0, none⟩ (.string (strN L))).setCell ⟨w.heap.size, 1, none⟩ (.int .i64 (q : Int))).setCell ⟨w.heap.size, 2, none⟩ (.int .i64 30)).setCell ⟨w.heap.size, 3, none⟩ (.int .i64 (q : Int))).alloc (.cells #[.string (strN L), .int .i64 (q : Int), .int .i64 30, .int .i64 (q : Int)] 111)) = w2 at *
        clear c0 c1 c2 c3 f0 f1 f2 f3 r0 r1 r2 r3 g0 g1 g2 g3 HT1 hlt
        obtain ⟨c0, c1, c2, c3, f0, f1, f2, f3⟩ := blk4 HT2.out.r
        obtain ⟨r0, r1, r2, r3, g0, g1, g2, g3⟩ := blk4 HT2.out.o
        go_wp2
        have HL := HT2.out.res (q : Int) 30 (q : Int)
        refine bodyPost_ret (v := .tuple #[qv L (q : Int) 30 (q : Int), .int .i64 0]) ?_ rfl ⟨HL.2, (q : Int), by rw [if_pos rfl, ← Hql.out]; rfl⟩
        simp [results, Tryd.results56, HL.1, asAddr]
    · have hj6' : j = 6 := by omega
      subst hj6'
      have d1 : decide (((6 : Nat) : Int) < 6) = false := by simp
      clear hj6 hj
      by_cases hend : q < L.length
      · have HB := hide (fun u => byte_ok L q bad u HX.out hend hm)
        have hdr : L.drop q = L.getD q 0 :: L.drop (q + 1) := by rw [List.drop_eq_getElem_cons hend]; simp [List.getD, hend]
        have hN := HN.out
        rw [hdr] at hN
        unfold numP at hN
        rw [if_pos (.inl rfl)] at hN
        subst hN
        clear HN hdr
        generalize L.getD q 0 = x at *
        go_wp2_with fail
        refine (HB.out _).mono ?_
        rintro e w1 ⟨rfl, hb⟩
        have HT1 := hide (HT.out.up hb)
        have hlt : w.heap.size < w1.heap.size := heap_lt HT1.out.r
        clear hb HB c0 c1 c2 c3 f0 f1 f2 f3 HT
        obtain ⟨c0, c1, c2, c3, f0, f1, f2, f3⟩ := blk4 HT1.out.r
        obtain ⟨r0, r1, r2, r3, g0, g1, g2, g3⟩ := blk4 HT1.out.o
        go_upto_if 63 with (fail)
        have HT2 := hide (HT1.out.set ((q : Int) + 1) 0 bad)
        generalize ((((w1.setCell ⟨w.heap.size, 0, none⟩ (.string (strN L))).setCell ⟨w.heap.size, 1, none⟩ (.int .i64 ((q : Int) + 1))).setCell ⟨w.heap.size, 2, none⟩ (.int .i64 0)).setCell ⟨w.heap.size, 3, none⟩ (.int .i64 bad)) = w2 at *
        clear c0 c1 c2 c3 f0 f1 f2 f3 r0 r1 r2 r3 g0 g1 g2 g3 HT1 hlt
        obtain ⟨c0, c1, c2, c3, f0, f1, f2, f3⟩ := blk4 HT2.out.r
        obtain ⟨r0, r1, r2, r3, g0, g1, g2, g3⟩ := blk4 HT2.out.o
        go_wp2_with fail
        refine (fail_c L ((q : Int) + 1) 0 bad (at_ : Int) 31 w2).mono ?_
        rintro e w3 ⟨rfl, hb⟩
        have HT3 := hide (HT2.out.up hb)
        clear hb c0 c1 c2 c3 f0 f1 f2 f3 r0 r1 r2 r3 g0 g1 g2 g3 HT2
        obtain ⟨r0, r1, r2, r3, g0, g1, g2, g3⟩ := blk4 HT3.out.o
        go_wp2
        have HL := HT3.out.res ((q : Int) + 1) 31 (at_ : Int)
        refine bodyPost_ret (v := .tuple #[qv L ((q : Int) + 1) 31 (at_ : Int), .int .i64 0]) ?_ rfl ⟨HL.2, _, rfl⟩
        simp [results, Tryd.results56, HL.1, asAddr]
      · have hql : q = L.length := by omega
        have HB := hide (fun u => byte_end L q bad u (by omega) (by omega))
        have hN := HN.out
        rw [hql, List.drop_eq_nil_of_le (Nat.le_refl _)] at hN
        have hN2 : NumR.bad 30 = R := hN
        subst hN2
        have Hql := hide hql
        clear hN HN hql
        go_wp2_with fail
        refine (HB.out _).mono ?_
        rintro e w1 ⟨rfl, hb⟩
        have HT1 := hide (HT.out.up hb)
        have hlt : w.heap.size < w1.heap.size := heap_lt HT1.out.r
        clear hb HB c0 c1 c2 c3 f0 f1 f2 f3 HT
        obtain ⟨c0, c1, c2, c3, f0, f1, f2, f3⟩ := blk4 HT1.out.r
        obtain ⟨r0, r1, r2, r3, g0, g1, g2, g3⟩ := blk4 HT1.out.o
        go_upto_if 63 with (fail)
        have HT2 := hide (HT1.out.set (q : Int) 30 (q : Int))
        generalize ((((w1.setCell ⟨w.heap.size, 0, none⟩ (.string (strN L))).setCell ⟨w.heap.size, 1, none⟩ (.int .i64 (q : Int))).setCell ⟨w.heap.size, 2, none⟩ (.int .i64 30)).setCell ⟨w.heap.size, 3, none⟩ (.int .i64 (q : Int))) = w2 at *
        clear c0 c1 c2 c3 f0 f1 f2 f3 r0 r1 r2 r3 g0 g1 g2 g3 HT1 hlt
        obtain ⟨c0, c1, c2, c3, f0, f1, f2, f3⟩ := blk4 HT2.out.r
        obtain ⟨r0, r1, r2, r3, g0, g1, g2, g3⟩ := blk4 HT2.out.o
        go_wp2
        have HL := HT2.out.res (q : Int) 30 (q : Int)
        refine bodyPost_ret (v := .tuple #[qv L (q : Int) 30 (q : Int), .int .i64 0]) ?_ rfl ⟨HL.2, (q : Int), by rw [if_pos rfl, ← Hql.out]; rfl⟩
        simp [results, Tryd.results56, HL.1, asAddr]
end Go.Proofs.YtofflmhfffphdaaDoor.Rb
/- The reference's reader (layer 3): Byte and Number as the machine of the program's reader says. -/
namespace Go.Proofs.YtofflmhfffphdaaDoor.Rq
set_option linter.unusedVariables false
set_option linter.unusedSimpArgs false
set_option maxRecDepth 100000
open Go.ChangeShapes Go.WideShapes Go.ChangeAt Go.RowKit
open Go.Proofs.YtofflmhfffphdaaDoor.Wu Go.Proofs.YtofflmhfffphdaaDoor.Sm Go.Proofs.YtofflmhfffphdaaDoor.Sh Go.Proofs.YtofflmhfffphdaaDoor.Ba Go.Proofs.YtofflmhfffphdaaDoor.Bs Go.Proofs.YtofflmhfffphdaaDoor.Cr Go.Proofs.YtofflmhfffphdaaDoor.Cs Go.Proofs.YtofflmhfffphdaaDoor.Cv Go.Proofs.YtofflmhfffphdaaDoor.Ra Go.Proofs.YtofflmhfffphdaaDoor.Rb
/-- The reference's reader says what the machine does. -/
def Qof (L : List Nat) (s : Rs) (v : Value) : Prop := ∃ at_ bad : Int, v = qv L at_ s.fe bad ∧ (s.fe = 0 → at_ = (s.at_ : Int)) ∧ (s.fe ≠ 0 → bad = s.fa)
/-- A reader and a value. -/
def RetQ (w : World) (L : List Nat) (s : Rs) (x : Value) (e : Ending) (w' : World) : Prop := ∃ v, e = .returned (.tuple #[v, x]) ∧ Qof L s v ∧ Below w.heap.size w w'
theorem bne0 {x : Int} (h : ¬ x = 0) : (x != 0) = true := by rw [bne_iff_ne]; exact h
theorem byte_q (L : List Nat) (s : Rs) (v : Value) (w : World) (h8 : All8 L) (hm : L.length ≤ 281474976710656) (hat : s.at_ ≤ L.length) (hq : Qof L s v) :
    Calls Tryd.prog 74 #[v] w (RetQ w L (s.byte L) (.int .i64 ((s.byteV L : Nat) : Int))) := by
  obtain ⟨at_, bad, rfl, h1, h2⟩ := hq
  by_cases hfe : s.fe = 0
  · rw [h1 hfe, hfe]
    by_cases hl : s.at_ < L.length
    · refine (byte_ok L s.at_ bad w h8 hl hm).mono ?_
      rintro e w' ⟨rfl, hb⟩
      have e1 : s.has L.length 1 = s := by unfold Rs.has; rw [if_neg (by omega)]
      have e2 : s.byte L = ⟨s.at_ + 1, s.fa, s.fe⟩ := by unfold Rs.byte; rw [e1, if_pos hfe]
      have e3 : s.byteV L = L.getD s.at_ 0 := by unfold Rs.byteV; rw [e1, if_pos hfe]
      rw [e2, e3]
      exact ⟨_, rfl, ⟨_, bad, by rw [hfe], fun _ => rfl, fun h => absurd hfe h⟩, hb⟩
    · refine (byte_end L s.at_ bad w (by omega) (by omega)).mono ?_
      rintro e w' ⟨rfl, hb⟩
      have e1 : s.has L.length 1 = ⟨s.at_, (L.length : Int), 30⟩ := by unfold Rs.has; rw [if_pos ⟨hfe, by omega⟩]
      have e2 : s.byte L = ⟨s.at_, (L.length : Int), 30⟩ := by unfold Rs.byte; rw [e1, if_neg (by simp)]
      have e3 : s.byteV L = 0 := by unfold Rs.byteV; rw [e1, if_neg (by simp)]
      rw [e2, e3]
      exact ⟨_, rfl, ⟨_, _, rfl, fun h => by simp at h, fun _ => by simp only; omega⟩, hb⟩
  · refine (byte_no L at_ s.fe bad w (bne0 hfe)).mono ?_
    rintro e w' ⟨rfl, hb⟩
    rw [(s.byte_stuck L hfe).1, (s.byte_stuck L hfe).2]
    exact ⟨_, rfl, ⟨_, _, rfl, h1, h2⟩, hb⟩
theorem num_q (L : List Nat) (s : Rs) (v : Value) (w : World) (h8 : All8 L) (hm : L.length ≤ 281474976710656) (hat : s.at_ ≤ L.length) (hq : Qof L s v) :
    Calls Tryd.prog 56 #[v] w (RetQ w L (s.num L) (.int .i64 ((s.numV L : Nat) : Int))) := by
  obtain ⟨at_, bad, rfl, h1, h2⟩ := hq
  by_cases hfe : s.fe = 0
  · rw [h1 hfe, hfe]
    refine (number_c L s.at_ bad w _ h8 hat hm rfl).mono ?_
    rintro e w' ⟨hb, hR⟩
    unfold Rs.num Rs.numV
    rw [if_pos hfe, if_pos hfe]
    cases hn : numP (L.drop s.at_) 0 0 with
    | ok n k =>
      rw [hn] at hR
      simp only at hR ⊢
      exact ⟨_, hR, ⟨_, bad, by rw [hfe], fun _ => rfl, fun h => absurd hfe h⟩, hb⟩
    | bad code =>
      rw [hn] at hR
      simp only at hR ⊢
      obtain ⟨a', hR⟩ := hR
      have hc := numP_code _ _ _ _ hn
      exact ⟨_, hR, ⟨_, _, rfl, fun h => by simp only at h; omega, fun _ => rfl⟩, hb⟩
  · refine (number_no L at_ s.fe bad w (bne0 hfe)).mono ?_
    rintro e w' ⟨rfl, hb⟩
    rw [(s.num_stuck L hfe).1, (s.num_stuck L hfe).2]
    exact ⟨_, rfl, ⟨_, _, rfl, h1, h2⟩, hb⟩
theorem strN_mid (L : List Nat) (i n : Nat) : (strN L).extract i (i + n) = strN ((L.drop i).take n) := by
  unfold strN strOfNums
  apply ByteArray.ext
  simp [ByteArray.data_extract, List.map_take, List.map_drop, List.extract_eq_take_drop]
theorem slice_str (L : List Nat) (i n : Nat) (h : i + n ≤ L.length) (u : World) : Sem.run Tryd.prog (Instr.slice 9 (.string (strN L)) (some (.int .i64 (i : Int))) (some (.int .i64 ((i : Int) + (n : Int)))) none) u = .ok (.string (strN ((L.drop i).take n))) u := by
  rw [run_slice_string u 9 (strN L) .i64 .i64 _ _ Tryd.underlying9 (by omega) (by omega) (by rw [strN_size]; omega)]
  rw [← strN_mid]
  congr 2
end Go.Proofs.YtofflmhfffphdaaDoor.Rq
/- Loads and stores of whole rows inside regions that draw their order. -/
namespace Go.Proofs.YtofflmhfffphdaaDoor.Rx
set_option linter.unusedVariables false
set_option linter.unusedSimpArgs false
open Go.RowKit
open Go.Proofs.YtofflmhfffphdaaDoor.Rk
theorem kUpon_store_mid {P : Program} {a : Act} {o : Oper} {u : World} {K : Value → World → Prop} (ty : TypeId) (x y : Operand) (ho : o.op = .store ty x y) (b off : Nat) (cells : Array Value) (hx : a.eval x = .pointer (some ⟨b, off, none⟩)) (hy : a.eval y = .agg cells)
    (ht : u.there b off cells.size) (hi : (P.info? ty).map (·.size) = some cells.size) (h1 : cells.all (·.oneCell') = true) (h : K undef (u.setCells b off cells.toList)) : kUpon P K ((execOp a.eval o).run P u) := by
  have hr := run_storeAt_mid (P := P) u b off ty cells ht hi h1
  have e : (execOp a.eval o).run P u = .ok .skip (u.setCells b off cells.toList) := by
    simp [execOp, ho, hx, hy, hr, Result.andThen]
  rw [e]
  exact h
theorem kUpon_load_mid {P : Program} {a : Act} {o : Oper} {u : World} {K : Value → World → Prop} (ty : TypeId) (x : Operand) (ho : o.op = .load ty x) (b off : Nat) (v : Value) (hx : a.eval x = .pointer (some ⟨b, off, none⟩))
    (hr : Sem.run P (loadVar ty ⟨b, off, none⟩) u = .ok v u) (h : K v u) : kUpon P K ((execOp a.eval o).run P u) := by
  have e : (execOp a.eval o).run P u = .ok (.value v) u := by
    simp [execOp, ho, hx, Instr.loadAt, Instr.sureAddr, hr, Result.andThen]
  rw [e]
  exact h
theorem there_all {w : World} {B : Nat} {c : Array Value} {T : TypeId} (h : w.heap[B]? = some (.cells c T (0, 0))) : w.there B 0 c.size := fun j hj => by
  refine ⟨?_, ?_⟩
  · rw [Nat.zero_add, Wu.blk_cell h (x := c[j]) (by rw [Array.getElem?_eq_getElem hj])]; rfl
  · exact Wu.blk_free h
end Go.Proofs.YtofflmhfffphdaaDoor.Rx
/- The reference's Read (layer 4). -/
namespace Go.Proofs.YtofflmhfffphdaaDoor.Fj
set_option linter.unusedVariables false
set_option linter.unusedSimpArgs false
set_option maxRecDepth 100000
open Go.ChangeShapes Go.WideShapes Go.ChangeAt Go.RowKit
open Go.Proofs.YtofflmhfffphdaaDoor.Wu Go.Proofs.YtofflmhfffphdaaDoor.Sm Go.Proofs.YtofflmhfffphdaaDoor.Sh Go.Proofs.YtofflmhfffphdaaDoor.Ba Go.Proofs.YtofflmhfffphdaaDoor.Bp Go.Proofs.YtofflmhfffphdaaDoor.Bs Go.Proofs.YtofflmhfffphdaaDoor.Cr Go.Proofs.YtofflmhfffphdaaDoor.Cv Go.Proofs.YtofflmhfffphdaaDoor.Cw Go.Proofs.YtofflmhfffphdaaDoor.Cz Go.Proofs.YtofflmhfffphdaaDoor.Ra Go.Proofs.YtofflmhfffphdaaDoor.Rb Go.Proofs.YtofflmhfffphdaaDoor.Rq Go.Proofs.YtofflmhfffphdaaDoor.Fp Go.Proofs.YtofflmhfffphdaaDoor.Fh Go.Proofs.YtofflmhfffphdaaDoor.Fi
attribute [local go_sem] Rk.kUpon_value Rk.kUpon_skip Rk.kUpon_enter
/-- The result's variable, the reader's. -/
structure Rr (w : World) (x y z : Value) (N : Nat) (L : List Nat) (at_ code bad : Int) (u : World) : Prop where
  f : u.heap[w.heap.size]? = some (.cells #[x, y, z] 58 (0, 0))
  q : u.heap[N]? = some (.cells #[.string (strN L), .int .i64 at_, .int .i64 code, .int .i64 bad] 111 (0, 0))
  b : Below w.heap.size w u
theorem Rr.cells {w u : World} {x y z : Value} {N : Nat} {L : List Nat} {at_ code bad : Int} (h : Rr w x y z N L at_ code bad u) :
    u.cell? ⟨w.heap.size, 0, none⟩ = some x ∧ u.cell? ⟨w.heap.size, 1, none⟩ = some y ∧ u.cell? ⟨w.heap.size, 2, none⟩ = some z ∧ u.frozen? ⟨w.heap.size, 0, none⟩ = false ∧ u.frozen? ⟨w.heap.size, 1, none⟩ = false ∧ u.frozen? ⟨w.heap.size, 2, none⟩ = false := blk3 h.f
theorem Rr.set {w u : World} {x y z : Value} {N : Nat} {L : List Nat} {at_ code bad : Int} (h : Rr w x y z N L at_ code bad u) (hN : N ≠ w.heap.size) (a b c : Value) : Rr w a b c N L at_ code bad (((u.setCell ⟨w.heap.size, 0, none⟩ a).setCell ⟨w.heap.size, 1, none⟩ b).setCell ⟨w.heap.size, 2, none⟩ c) :=
  ⟨blk3_set h.f a b c, blk_set_other (blk_set_other (blk_set_other h.q hN _) hN _) hN _, below_set3 h.b (Nat.le_refl _) a b c⟩
theorem Rr.drew {w u : World} {x y z : Value} {N : Nat} {L : List Nat} {at_ code bad : Int} (h : Rr w x y z N L at_ code bad u) : Rr w x y z N L at_ code bad u.drew := ⟨h.f, h.q, h.b.drew⟩
/-- Where the walk through the last statement is. -/
def stageR (w : World) (x y z : Value) (N : Nat) (L : List Nat) (at_ code bad : Int) (u : World) : List Value → Prop
  | [] => Rr w (.int .i64 0) (.int .i64 0) (.string ⟨#[]⟩) N L at_ code bad u
  | _ => Rr w x y z N L at_ code bad u
def TR (w : World) (x y z : Value) (N : Nat) (L : List Nat) (at_ code bad : Int) (h : List Value) (u : World) : Prop := stageR w x y z N L at_ code bad u h
theorem TR.any {w u : World} {x y z : Value} {N : Nat} {L : List Nat} {at_ code bad : Int} {h : List Value} (t : TR w x y z N L at_ code bad h u) : u.heap[N]? = some (.cells #[.string (strN L), .int .i64 at_, .int .i64 code, .int .i64 bad] 111 (0, 0)) := by
  cases h with
  | nil => exact Rr.q t
  | cons _ _ => exact Rr.q t
/-- What the reference answers. -/
def refV (L : List Nat) : HR → Value
  | .bad code place => .tuple #[.agg #[.int .i64 0, .int .i64 0, .string ⟨#[]⟩], .int .i64 0, .int .i64 code, .int .i64 place]
  | .ok k s h n => .tuple #[.agg #[.int .i64 (k : Int), .int .i64 (s : Int), .string (strN ((L.drop h).take n))], .int .i64 ((h + n : Nat) : Int), .int .i64 0, .int .i64 0]
theorem fin3r {w w5 : World} {x y z : Value} (hF : w5.heap[w.heap.size]? = some (.cells #[x, y, z] 58 (0, 0))) (hb : Below w.heap.size w w5) (a b c : Value) :
    Sem.run Tryd.prog (loadVar 58 ⟨w.heap.size, 0, none⟩) (((w5.setCell ⟨w.heap.size, 0, none⟩ a).setCell ⟨w.heap.size, 1, none⟩ b).setCell ⟨w.heap.size, 2, none⟩ c) = .ok (.agg #[a, b, c]) (((w5.setCell ⟨w.heap.size, 0, none⟩ a).setCell ⟨w.heap.size, 1, none⟩ b).setCell ⟨w.heap.size, 2, none⟩ c) ∧
    Below w.heap.size w (((w5.setCell ⟨w.heap.size, 0, none⟩ a).setCell ⟨w.heap.size, 1, none⟩ b).setCell ⟨w.heap.size, 2, none⟩ c) :=
  ⟨load_plain (Fc.set_frame hF a b c), below_set3 hb (Nat.le_refl _) a b c⟩
theorem str_empty (L : List Nat) : (strN L).toList.isEmpty = decide (L = []) := by
  rw [ByteArray.toList_eq]
  cases L with
  | nil => rfl
  | cons x X => simp [strN, strOfNums]
set_option maxHeartbeats 1600000 in
theorem refRead_c (L : List Nat) (w : World) (h8 : All8 L) (hm : L.length ≤ 281474976710656) :
    Calls Tryd.prog 45 #[.string (strN L)] w fun e w' => e = .returned (refV L (readR L)) ∧ Below w.heap.size w w' := by
  have hsz := strN_size L
  have hsn := str_empty L
  have HF0 := hide (heap_last w (.cells #[.int .i64 0, .int .i64 0, .string ⟨#[]⟩] 58))
  have HB0 := hide (below_new w (.cells #[.int .i64 0, .int .i64 0, .string ⟨#[]⟩] 58))
  rcases Nat.eq_zero_or_pos L.length with hl0 | hl0
  · have hLn : L = [] := List.length_eq_zero_iff.1 hl0
    have HR : Hid (readR L = .bad 30 0) := by subst hLn; rfl
    have hq : (strN L).toList.isEmpty = true := by rw [hsn, hLn]; rfl
    clear hsn hLn hl0 hsz
    rw [HR.out]
    go_enter Tryd.func45, Tryd.ntmps45
    go_wp2
    have HL := load_plain (heap_last w (.cells #[.int .i64 0, .int .i64 0, .string ⟨#[]⟩] 58))
    refine bodyPost_ret (v := refV L (.bad 30 0)) ?_ rfl ⟨rfl, HB0.out⟩
    simp [results, Tryd.results45, asAddr, HL, refV]
  · have hq : (strN L).toList.isEmpty = false := by
      rw [hsn]
      apply decide_eq_false
      intro h
      rw [h] at hl0
      simp at hl0
    have hx := strN_at h8 0 (by rw [hsz]; exact hl0)
    have hx8 := all8_getD h8 0
    have hb1 : s0.has L.length 1 = s0 := by unfold Rs.has; rw [if_neg (by show ¬ (_ ∧ L.length < 0 + 1); omega)]
    have hb2 : s0.byte L = ⟨1, 0, 0⟩ := by unfold Rs.byte; rw [hb1, if_pos (show s0.fe = 0 from rfl)]; rfl
    have hb3 : s0.byteV L = L.getD 0 0 := by unfold Rs.byteV; rw [hb1, if_pos (show s0.fe = 0 from rfl)]; rfl
    have HN := hide (fun u => num_q L ⟨1, 0, 0⟩ (qv L 1 0 0) u h8 hm (by simp only; omega) ⟨1, 0, rfl, fun _ => rfl, fun h => by simp at h⟩)
    have hna := Rs.num_at ⟨1, 0, 0⟩ L (by simp only; omega)
    have hnm := Rs.numV_max ⟨1, 0, 0⟩ L
    have HRd : Hid (readR L = if L.getD 0 0 < 8 then .bad 40 0 else if (Rs.num ⟨1, 0, 0⟩ L).fe ≠ 0 then .bad (Rs.num ⟨1, 0, 0⟩ L).fe (Rs.num ⟨1, 0, 0⟩ L).fa else if 16384 < Rs.numV ⟨1, 0, 0⟩ L then .bad 2 1 else if L.length < (Rs.num ⟨1, 0, 0⟩ L).at_ + Rs.numV ⟨1, 0, 0⟩ L then .bad 30 (L.length : Int) else .ok (L.getD 0 0 / 8) (L.getD 0 0 % 8) (Rs.num ⟨1, 0, 0⟩ L).at_ (Rs.numV ⟨1, 0, 0⟩ L)) := by
      show _ = _
      unfold readR headR
      rw [hb2, hb3]
      by_cases c1 : L.getD 0 0 < 8
      · rw [if_pos ⟨hl0, c1⟩, if_pos c1]
      · rw [if_neg (fun h => c1 h.2), if_neg c1]
        by_cases c2 : (Rs.num ⟨1, 0, 0⟩ L).fe ≠ 0
        · rw [if_pos c2, if_pos c2]
        · rw [if_neg c2, if_neg c2]
          by_cases c3 : 16384 < Rs.numV ⟨1, 0, 0⟩ L
          · rw [if_pos c3, if_pos c3]
          · rw [if_neg c3, if_neg c3]
    clear hsn hb1 hb2 hb3
    generalize L.getD 0 0 = x at *
    have hxw : wrap64 ((((strN L)[0]'(by rw [hsz]; exact hl0)).toNat : Nat) : Int) = (x : Int) := by rw [hx]; exact IntWalk.wrap64_in _ (by omega)
    have hl1 : 0 < (strN L).size := by rw [hsz]; exact hl0
    have Hxw := hide hxw
    clear hxw hx
    go_enter Tryd.func45, Tryd.ntmps45
    go_upto_if 16 with (fail)
    rw [Hxw.out]
    generalize w.alloc (.cells #[.int .i64 0, .int .i64 0, .string ⟨#[]⟩] 58) = w1 at *
    by_cases c1 : x < 8
    · have d1 : decide ((x : Int) < 8) = true := by simp; omega
      have d1' : decide (x < 8) = true := by simp; omega
      have hR := HRd.out
      rw [if_pos c1] at hR
      have HR := hide hR
      clear hR HRd
      have f0 : w1.cell? ⟨w.heap.size, 0, none⟩ = some (.int .i64 0) := blk_cell HF0.out rfl
      have f1 : w1.cell? ⟨w.heap.size, 1, none⟩ = some (.int .i64 0) := blk_cell HF0.out rfl
      have f2 : w1.cell? ⟨w.heap.size, 2, none⟩ = some (.string ⟨#[]⟩) := blk_cell HF0.out rfl
      have z0 : w1.frozen? ⟨w.heap.size, 0, none⟩ = false := blk_free HF0.out
      have z1 : w1.frozen? ⟨w.heap.size, 1, none⟩ = false := blk_free HF0.out
      have z2 : w1.frozen? ⟨w.heap.size, 2, none⟩ = false := blk_free HF0.out
      go_wp2
      have HL := fin3r HF0.out HB0.out (.int .i64 0) (.int .i64 0) (.string ⟨#[]⟩)
      rw [HR.out]
      refine bodyPost_ret (v := refV L (.bad 40 0)) ?_ rfl ⟨rfl, HL.2⟩
      simp [results, Tryd.results45, asAddr, HL.1, refV]
    · have d1 : decide ((x : Int) < 8) = false := by simp; omega
      have d1' : decide (x < 8) = false := by simp; omega
      have hR := HRd.out
      rw [if_neg c1] at hR
      have HR0 := hide hR
      clear hR HRd
      go_wp2_with fail
      refine (HN.out w1).mono ?_
      rintro e w2 ⟨v2, rfl, ⟨at2, bad2, rfl, p0, p1⟩, hb2⟩
      have HF2 := hide (below_blk hb2 (heap_lt HF0.out) HF0.out)
      have HB2 := hide (keepB hb2 (Nat.le_refl _) HB0.out)
      have hz2 : w.heap.size < w2.heap.size := heap_lt HF2.out
      have P0 := hide p0
      have P1 := hide p1
      clear hb2 HF0 HB0 p0 p1 HN
      obtain ⟨n, hn⟩ : ∃ n, n = Rs.numV ⟨1, 0, 0⟩ L := ⟨_, rfl⟩
      rw [← hn] at hnm HR0 ⊢
      obtain ⟨s2, hs2⟩ : ∃ s2, s2 = Rs.num ⟨1, 0, 0⟩ L := ⟨_, rfl⟩
      rw [← hs2] at hna HR0 P0 P1 ⊢
      clear hn hs2
      have HF3 := hide (heap_old HF2.out (.cells #[.string (strN L), .int .i64 at2, .int .i64 s2.fe, .int .i64 bad2] 111))
      have HQ3 := hide (heap_last w2 (.cells #[.string (strN L), .int .i64 at2, .int .i64 s2.fe, .int .i64 bad2] 111))
      have HB3 := hide (keepB (below_new w2 (.cells #[.string (strN L), .int .i64 at2, .int .i64 s2.fe, .int .i64 bad2] 111)) (Nat.le_refl _) HB2.out)
      go_upto_if 26 with (fail)
      generalize w2.alloc (.cells #[.string (strN L), .int .i64 at2, .int .i64 s2.fe, .int .i64 bad2] 111) = w3 at *
      generalize w2.heap.size = N at *
      clear HF2 HB2
      have f0 : w3.cell? ⟨w.heap.size, 0, none⟩ = some (.int .i64 0) := blk_cell HF3.out rfl
      have f1 : w3.cell? ⟨w.heap.size, 1, none⟩ = some (.int .i64 0) := blk_cell HF3.out rfl
      have f2 : w3.cell? ⟨w.heap.size, 2, none⟩ = some (.string ⟨#[]⟩) := blk_cell HF3.out rfl
      have z0 : w3.frozen? ⟨w.heap.size, 0, none⟩ = false := blk_free HF3.out
      have z1 : w3.frozen? ⟨w.heap.size, 1, none⟩ = false := blk_free HF3.out
      have z2 : w3.frozen? ⟨w.heap.size, 2, none⟩ = false := blk_free HF3.out
      obtain ⟨r0, r1, r2, r3, g0, g1, g2, g3⟩ := blk4 HQ3.out
      obtain ⟨p2, fa2, fe2⟩ := s2
      simp only at hna HR0 P0 P1 r2 ⊢
      by_cases c2 : fe2 = 0
      · have e2 := P0.out c2
        subst c2
        subst e2
        have hR := HR0.out
        rw [if_neg (by simp)] at hR
        have HR1 := hide hR
        clear hR HR0
        by_cases c3 : 16384 < n
        · have d2 : decide ((16384 : Int) < (n : Int)) = true := by simp; omega
          have d2' : decide (16384 < n) = true := by simp; omega
          have hR := HR1.out
          rw [if_pos c3] at hR
          have HR := hide hR
          clear hR HR1
          go_wp2
          have HL := fin3r HF3.out HB3.out (.int .i64 0) (.int .i64 0) (.string ⟨#[]⟩)
          rw [HR.out]
          refine bodyPost_ret (v := refV L (.bad 2 1)) ?_ rfl ⟨rfl, HL.2⟩
          simp [results, Tryd.results45, asAddr, HL.1, refV]
        · have d2 : decide ((16384 : Int) < (n : Int)) = false := by simp; omega
          have d2' : decide (16384 < n) = false := by simp; omega
          have hR := HR1.out
          rw [if_neg c3] at hR
          have HR2 := hide hR
          clear hR HR1
          by_cases c4 : L.length < p2 + n
          · have d3 : decide ((L.length : Int) - (p2 : Int) < (n : Int)) = true := by simp; omega
            have hR := HR2.out
            rw [if_pos c4] at hR
            have HR := hide hR
            clear hR HR2
            go_wp2
            have HL := fin3r HF3.out HB3.out (.int .i64 0) (.int .i64 0) (.string ⟨#[]⟩)
            rw [HR.out]
            refine bodyPost_ret (v := refV L (.bad 30 (L.length : Int))) ?_ rfl ⟨rfl, HL.2⟩
            simp [results, Tryd.results45, asAddr, HL.1, refV]
          · have d3 : decide ((L.length : Int) - (p2 : Int) < (n : Int)) = false := by simp; omega
            have hR := HR2.out
            rw [if_neg c4] at hR
            have HR := hide hR
            clear hR HR2
            have hsl := slice_str L p2 n (by omega)
            obtain ⟨D, hD⟩ : ∃ D, D = (L.drop p2).take n := ⟨_, rfl⟩
            rw [← hD] at hsl
            have HDe := hide hD
            clear hD
            have HX0 : Hid (TR w (.int .i64 ((x : Int) / 8)) (.int .i64 ((x : Int) % 8)) (.string (strN D)) N L (p2 : Int) 0 bad2 [] w3.drew) := hide (Rr.drew ⟨HF3.out, HQ3.out, HB3.out⟩)
            have mixed : Tryd.prog.follows Departure.mixedOrders = true := by kernel_rfl
            go_wp2_with fail
            clear f0 f1 f2 z0 z1 z2 r0 r1 r2 r3 g0 g1 g2 g3
            have hw1 : IntKind.i64.wrap ((p2 : Int) + (n : Int)) = (p2 : Int) + (n : Int) := IntWalk.i64_in _ (by omega)
            have hw2 : IntKind.i64.wrap ((x : Int) / 8) = (x : Int) / 8 := IntWalk.i64_in _ (by omega)
            have hw3 : (x : Int).tmod 8 = (x : Int) % 8 := Int.tmod_eq_emod_of_nonneg (by omega)
            refine Rg.wp_region_g (TR w (.int .i64 ((x : Int) / 8)) (.int .i64 ((x : Int) % 8)) (.string (strN D)) N L (p2 : Int) 0 bad2) [some (some ?_), some (some ?_), some (some ?_), some (some ?_), some (some ?_), some (some ?_), some (some ?_), some (some ?_), some (some ?_), some (some ?_), some (some ?_), some (some ?_), some (some ?_), some (some ?_), some (some ?_), some (some ?_), some (some ?_), none, some (some ?_), some (some ?_), some (some ?_)] mixed (by kernel_rfl) [17] [17] rfl rfl (by kernel_rfl) HX0.out ?_
            rotate_left 20
            iterate 17 (
              refine Rg.gF_step (by rfl) (fun h u K hT hK => ?_) ?_
              · obtain ⟨r0, r1, r2, r3, g0, g1, g2, g3⟩ := blk4 hT.any
                go_simp
                exact hK _ hT
              simp only [Act.put, List.setIfInBounds_toArray, List.set_cons_zero, List.set_cons_succ])
            refine Rg.gE_step (v := undef) (by rfl) (fun u K hT hK => ?_) ?_
            · have hr : Rr w (.int .i64 0) (.int .i64 0) (.string ⟨#[]⟩) N L (p2 : Int) 0 bad2 u := hT
              obtain ⟨f0, f1, f2, z0, z1, z2⟩ := hr.cells
              go_simp
              exact hK _ (hr.set (by omega) _ _ _)
            simp only [Act.put, List.setIfInBounds_toArray, List.set_cons_zero, List.set_cons_succ]
            iterate 3 (
              refine Rg.gF_step (by rfl) (fun h u K hT hK => ?_) ?_
              · go_simp
                exact hK _ hT
              simp only [Act.put, List.setIfInBounds_toArray, List.set_cons_zero, List.set_cons_succ])
            refine Rg.g_nil (fun w4 hT => ?_)
            have H4 : Rr w (.int .i64 ((x : Int) / 8)) (.int .i64 ((x : Int) % 8)) (.string (strN D)) N L (p2 : Int) 0 bad2 w4 := hT
            have HR4 := hide H4
            clear hT H4 HX0
            go_wp2
            rw [HR.out]
            refine bodyPost_ret (v := .tuple #[.agg #[.int .i64 ((x : Int) / 8), .int .i64 ((x : Int) % 8), .string (strN D)], .int .i64 ((p2 : Int) + (n : Int)), .int .i64 0, .int .i64 0]) ?_ rfl ⟨?_, HR4.out.b⟩
            · simp [results, Tryd.results45, asAddr, load_plain HR4.out.f]
            · rw [HDe.out]
              rfl
      · have e2 := P1.out c2
        subst e2
        have hz : (fe2 != 0) = true := bne0 c2
        have hR := HR0.out
        rw [if_pos c2] at hR
        have HR := hide hR
        clear hR HR0
        have HX0 : Hid (Rr w (.int .i64 0) (.int .i64 0) (.string ⟨#[]⟩) N L at2 fe2 bad2 w3.drew) := hide (Rr.drew ⟨HF3.out, HQ3.out, HB3.out⟩)
        have mixed : Tryd.prog.follows Departure.mixedOrders = true := by kernel_rfl
        go_wp2_with fail
        clear f0 f1 f2 z0 z1 z2 r0 r1 r2 r3 g0 g1 g2 g3
        refine Rk.wp_region_keep (Rr w (.int .i64 0) (.int .i64 0) (.string ⟨#[]⟩) N L at2 fe2 bad2) mixed (by kernel_rfl) HX0.out ?_
        repeat (
          refine Rk.keep_step (v := ?_) (by rfl) (fun u K hS hK => ?_) ?_
          rotate_left
          · obtain ⟨f0, f1, f2, z0, z1, z2⟩ := hS.cells
            obtain ⟨r0, r1, r2, r3, g0, g1, g2, g3⟩ := blk4 hS.q
            go_simp
            first
              | exact hK _ hS
              | exact hK _ (hS.set (by omega) _ _ _)
          simp only [Act.put, List.setIfInBounds_toArray, List.set_cons_zero, List.set_cons_succ])
        refine Rk.keep_nil (fun w4 hS => ?_)
        have HR4 := hide hS
        clear hS HX0
        go_wp2
        rw [HR.out]
        refine bodyPost_ret (v := refV L (.bad fe2 bad2)) ?_ rfl ⟨rfl, HR4.out.b⟩
        simp [results, Tryd.results45, asAddr, load_plain HR4.out.f, refV]
end Go.Proofs.YtofflmhfffphdaaDoor.Fj
/- The reference's All (layer 5). -/
namespace Go.Proofs.YtofflmhfffphdaaDoor.Gk
set_option linter.unusedVariables false
set_option linter.unusedSimpArgs false
set_option maxRecDepth 100000
open Go.ChangeShapes Go.WideShapes Go.ChangeAt Go.RowKit
open Go.Proofs.YtofflmhfffphdaaDoor.Wu Go.Proofs.YtofflmhfffphdaaDoor.Sm Go.Proofs.YtofflmhfffphdaaDoor.Sh Go.Proofs.YtofflmhfffphdaaDoor.Ba Go.Proofs.YtofflmhfffphdaaDoor.Bp Go.Proofs.YtofflmhfffphdaaDoor.Bs Go.Proofs.YtofflmhfffphdaaDoor.Rq Go.Proofs.YtofflmhfffphdaaDoor.Rk Go.Proofs.YtofflmhfffphdaaDoor.Fh Go.Proofs.YtofflmhfffphdaaDoor.Fi Go.Proofs.YtofflmhfffphdaaDoor.Fj Go.Proofs.YtofflmhfffphdaaDoor.Ga
attribute [local go_sem] kUpon_value kUpon_skip kUpon_enter
/-- The cells of the reference's frames. -/
def rc : List Fr → List Value
  | [] => []
  | f :: fs => .int .i64 (f.k : Int) :: .int .i64 (f.s : Int) :: .string (strN f.d) :: rc fs
theorem rc_snoc (fs : List Fr) (f : Fr) : rc (fs ++ [f]) = rc fs ++ [.int .i64 (f.k : Int), .int .i64 (f.s : Int), .string (strN f.d)] := by
  induction fs with
  | nil => rfl
  | cons g fs ih => simp only [List.cons_append, rc, ih]
def RFs (w : World) (v : Value) (N : Nat) (fs : List Fr) : Prop := w.ownsRow N 58 3 v fs.length (rc fs)
theorem RFs.below {w w' : World} {v : Value} {N : Nat} {fs : List Fr} (h : RFs w v N fs) (hb : Below w.heap.size w w') : RFs w' v N fs := by
  obtain ⟨h1, h2⟩ := h
  refine ⟨h1, ?_⟩
  rcases h2 with h | ⟨g, cap, cur, e, hb', hg, r⟩
  · exact .inl h
  · exact .inr ⟨g, cap, cur, e, hb', (hb.block g (heap_lt hg)).trans hg, r⟩
theorem RFs.form {w : World} {v : Value} {N : Nat} {fs : List Fr} (h : RFs w v N fs) : ∃ a cap, v = .slice a fs.length cap ∧ fs.length ≤ cap ∧ cap ≤ maxLen := by
  obtain ⟨h1, h2⟩ := h
  rcases h2 with ⟨rfl, hn⟩ | ⟨g, cap, cur, rfl, hb, hg, hl, hm, _⟩
  · exact ⟨none, 0, by rw [hn], by omega, Nat.zero_le _⟩
  · exact ⟨_, cap, rfl, hl, hm⟩
theorem rc_at : ∀ (fs : List Fr) (i : Nat) (f : Fr), fs[i]? = some f → (rc fs)[3 * i]? = some (.int .i64 (f.k : Int)) ∧ (rc fs)[3 * i + 1]? = some (.int .i64 (f.s : Int)) ∧ (rc fs)[3 * i + 2]? = some (.string (strN f.d))
  | [], i, f, h => by cases h
  | g :: fs, 0, f, h => by
    simp only [List.getElem?_cons_zero, Option.some.injEq] at h
    subst h
    exact ⟨rfl, rfl, rfl⟩
  | g :: fs, i + 1, f, h => by
    obtain ⟨q1, q2, q3⟩ := rc_at fs i f (by simpa using h)
    refine ⟨?_, ?_, ?_⟩
    · rw [show 3 * (i + 1) = 3 * i + 3 by omega]; simpa [rc] using q1
    · rw [show 3 * (i + 1) + 1 = 3 * i + 1 + 3 by omega]; simpa [rc] using q2
    · rw [show 3 * (i + 1) + 2 = 3 * i + 2 + 3 by omega]; simpa [rc] using q3
theorem RFs.at {w : World} {v : Value} {N : Nat} {fs : List Fr} (h : RFs w v N fs) (i : Nat) (f : Fr) (hf : fs[i]? = some f) :
    ∃ g cap, v = .slice (some ⟨g, 0, none⟩) fs.length cap ∧ w.cell? ⟨g, 3 * i, none⟩ = some (.int .i64 (f.k : Int)) ∧ w.cell? ⟨g, 3 * i + 1, none⟩ = some (.int .i64 (f.s : Int)) ∧ w.cell? ⟨g, 3 * i + 2, none⟩ = some (.string (strN f.d)) := by
  obtain ⟨q1, q2, q3⟩ := rc_at fs i f hf
  have h' := h
  rcases h'.2 with ⟨rfl, hn⟩ | ⟨g, cap, cur, rfl, hb, hg, hl, hm, _⟩
  · obtain rfl := List.length_eq_zero_iff.1 hn
    cases hf
  · have hc := World.ownsRow.cells h (g := g) rfl
    refine ⟨g, cap, rfl, ?_, ?_, ?_⟩
    · have := hc _ _ q1; rwa [Addr.add_mid, Nat.zero_add] at this
    · have := hc _ _ q2; rwa [Addr.add_mid, Nat.zero_add] at this
    · have := hc _ _ q3; rwa [Addr.add_mid, Nat.zero_add] at this
theorem info_rf : (Tryd.prog.info? 58).map (fun i => (i.zero, i.size, i.bytes)) = some (some (.agg #[.int .i64 0, .int .i64 0, .string ⟨#[]⟩]), 3, 32) := by kernel_rfl
theorem cells3 {w : World} {b : Nat} {x y z : Value} {T : TypeId} {f : Nat × Nat} (h : w.heap[b]? = some (.cells #[x, y, z] T f)) : ∀ j u, [x, y, z][j]? = some u → w.cell? ((⟨b, 0, none⟩ : Addr).add j) = some u := by
  intro j u hu
  rw [Addr.add_mid, Nat.zero_add]
  exact blk_cell h (by simpa using hu)
theorem append_rf (w : World) (ty : TypeId) (v : Value) (N : Nat) (fs : List Fr) (b c : Nat) (f : Fr) (T : TypeId) (fz : Nat × Nat) (h : RFs w v N fs) (hN : N ≤ w.heap.size) (hb : w.heap[b]? = some (.cells #[.int .i64 (f.k : Int), .int .i64 (f.s : Int), .string (strN f.d)] T fz)) (hbig : fs.length ≤ 1000000000) :
    ∃ v' w', (Builtin.append_ #[47, 47] ty #[v, .slice (some ⟨b, 0, none⟩) 1 c]).run Tryd.prog w = .ok v' w' ∧ RFs w' v' N (fs ++ [f]) ∧ w.grownBy w' v.ownBlock := by
  obtain ⟨i0, hi0, hz0, hz1, hz2⟩ := info_parts info_rf
  obtain ⟨v', w', hr, h1, h2, h3, h4⟩ := run_append_own_at (P := Tryd.prog) w N 47 ty 58 i0 _ 3 32 Tryd.underlying47 hi0 hz0 hz1 hz2 rfl (by omega) v fs.length (rc fs) h ⟨b, 0, none⟩ 1 c [.int .i64 (f.k : Int), .int .i64 (f.s : Int), .string (strN f.d)] rfl (cells3 hb) (by intro u hu; simp only [List.mem_cons, List.not_mem_nil, or_false] at hu; rcases hu with rfl | rfl | rfl <;> rfl) (by unfold maxLen; omega) (by omega) hN
  refine ⟨v', w', hr, ?_, h2⟩
  unfold RFs
  rw [rc_snoc]
  simpa using h1
theorem wpList_append_rf {w : World} {ops : Array Oper} {rest : List Oper} {o : Oper} {a : Act} {Q : Exit → Act → World → Prop} (hgd : o.guard = none) (sl x : Operand)
    (ho : o.op = .call { callee := .builtin .append, args := #[sl, x], argTypes := #[47, 47] }) (v : Value) (N : Nat) (fs : List Fr) (b c : Nat) (f : Fr) (T : TypeId) (fz : Nat × Nat)
    (hs : a.eval sl = v) (hx : a.eval x = .slice (some ⟨b, 0, none⟩) 1 c) (h : RFs w v N fs) (hN : N ≤ w.heap.size) (hb : w.heap[b]? = some (.cells #[.int .i64 (f.k : Int), .int .i64 (f.s : Int), .string (strN f.d)] T fz)) (hbig : fs.length ≤ 1000000000)
    (H : ∀ v' w', Hid (RFs w' v' N (fs ++ [f])) → Hid (w.grownBy w' v.ownBlock) → Hid (wpList Tryd.prog ops Q rest (a.put o.dst v') w')) : wpList Tryd.prog ops Q (o :: rest) a w := by
  obtain ⟨v', w', hrun, h1, h2⟩ := append_rf w o.type v N fs b c f T fz h hN hb hbig
  refine wpList_plain hgd fun K hK => ?_
  unfold Oper.wp
  simp [execOp, ho, resolve, invoke, builtin, hs, hx, hrun, Result.andThen]
  exact hK _ _ (H v' w' h1 h2)
theorem slice_str_from (L : List Nat) (i : Nat) (h : i ≤ L.length) (u : World) : Sem.run Tryd.prog (Instr.slice 9 (.string (strN L)) (some (.int .i64 (i : Int))) none none) u = .ok (.string (strN (L.drop i))) u := by
  have e1 : (strN L).extract i (strN L).size = strN (L.drop i) := by
    have := strN_mid L i (L.length - i)
    rw [List.take_of_length_le (by rw [List.length_drop]; exact Nat.le_refl _), show i + (L.length - i) = (strN L).size by rw [strN_size]; omega] at this
    exact this
  have h1 := run_slice_string_l (P := Tryd.prog) u 9 (strN L) Tryd.underlying9 .i64 (i : Int) (by omega) (by rw [strN_size]; omega)
  rw [h1, Int.toNat_natCast, e1]
def allC (c : Int) : Int := if c = 30 then 0 else c
def allP (z : Nat) (c p : Int) : Int := if c = 30 then 0 else (z : Int) + p
def AllP (w : World) (L : List Nat) (e : Ending) (w' : World) : Prop :=
  ∃ v fs z c p, e = .returned (.tuple #[v, .int .i64 ((z : Nat) : Int), .int .i64 (allC c), .int .i64 (allP z c p)]) ∧ Fed L fs z c p ∧ RFs w' v w.heap.size fs ∧ Below w.heap.size w w'
set_option maxHeartbeats 1600000 in
theorem refAll_c (L : List Nat) (w : World) (h8 : All8 L) (hm : L.length ≤ 1000000) :
    Calls Tryd.prog 24 #[.string (strN L)] w (AllP w L) := by
  have hsz := strN_size L
  go_enter Tryd.func24, Tryd.ntmps24
  go_wp2_with fail
  go_loopw [6, 7] (fun out at_ wr => ∃ fs z, at_ = .int .i64 ((z : Nat) : Int) ∧ Done L fs z ∧ RFs wr out w.heap.size fs ∧ Below w.heap.size w wr) (fun _ at_ _ => L.length - (intOf at_).toNat)
  case atStart => exact ⟨[], 0, rfl, .zero, World.ownsRow_nil _ _ _ _, Below.refl _ _⟩
  case round =>
    obtain ⟨fs, z, rfl, hdone, hrf, hb⟩ := hrel
    have hz := hdone.fits.1
    have hzl := hdone.fits.2
    have HDn := hide hdone
    have HRf := hide hrf
    have HB := hide hb
    clear hdone hrf hb
    by_cases hlt : z < L.length
    · have d1 : decide ((z : Int) < (L.length : Int)) = true := by simp; omega
      have d1' : decide (z < L.length) = true := by simp; omega
      have hsl := slice_str_from L z hz
      have HRd := hide (refRead_c (L.drop z) wr (all8_drop h8 z) (by rw [List.length_drop]; omega))
      cases hR : readR (L.drop z) with
      | bad c p =>
        rw [hR] at HRd
        have HFe := hide (HDn.out.stop hR)
        have hc0 := readR_bad_ne hR
        have hpp := readR_bad_place hR
        rw [List.length_drop] at hpp
        clear hR
        go_wp2_with fail
        refine HRd.out.mono ?_
        rintro e w3 ⟨rfl, hb3⟩
        unfold refV
        simp only
        have HB3 := hide (keepB (below_new w3 (.cells #[.int .i64 0, .int .i64 0, .string ⟨#[]⟩] 58)) (Nat.le_refl _) (keepB hb3 (Nat.le_refl _) HB.out))
        have HR3 := hide ((HRf.out.below hb3).below (below_new w3 (.cells #[.int .i64 0, .int .i64 0, .string ⟨#[]⟩] 58)))
        clear hb3 HRd
        by_cases h30 : c = 30
        · subst h30
          go_wp2
          refine bodyPost_ret (v := .tuple #[u6, .int .i64 (z : Int), .int .i64 0, .int .i64 0]) ?_ rfl ⟨u6, fs, z, 30, p, rfl, HFe.out, HR3.out, HB3.out⟩
          simp [results, Tryd.results24]
        · have e1 : (c == 30) = false := by simp; exact h30
          have e2 : (c != 0) = true := by simp; exact hc0
          have e3 : (c == 0) = false := by simp; exact hc0
          have HC : Hid (allC c = c) := hide (by unfold allC; rw [if_neg h30])
          have HP : Hid (allP z c p = (z : Int) + p) := hide (by unfold allP; rw [if_neg h30])
          go_wp2
          refine bodyPost_ret (v := .tuple #[u6, .int .i64 (z : Int), .int .i64 c, .int .i64 ((z : Int) + p)]) ?_ rfl ⟨u6, fs, z, c, p, by rw [HC.out, HP.out], HFe.out, HR3.out, HB3.out⟩
          simp [results, Tryd.results24]
      | ok k ss h n =>
        rw [hR] at HRd
        have hrk := readR_app_ok [] hR
        rw [List.length_drop] at hrk
        obtain ⟨-, hrk1, hrk2⟩ := hrk
        have HDs := hide (Done.snoc HDn.out hR)
        clear hR
        obtain ⟨D, hD⟩ : ∃ D, D = ((L.drop z).drop h).take n := ⟨_, rfl⟩
        rw [← hD] at HDs
        unfold refV at HRd
        simp only at HRd
        rw [← hD] at HRd
        clear hD
        obtain ⟨q, hq⟩ : ∃ q, q = h + n := ⟨_, rfl⟩
        rw [← hq] at HRd HDs hrk1
        have hq0 : 0 < q := by omega
        clear hq
        go_wp2_with fail
        refine HRd.out.mono ?_
        rintro e w3 ⟨rfl, hb3⟩
        have hb4 := below_new w3 (.cells #[.int .i64 (k : Int), .int .i64 (ss : Int), .string (strN D)] 58)
        have hb5 := below_new (w3.alloc (.cells #[.int .i64 (k : Int), .int .i64 (ss : Int), .string (strN D)] 58)) (.cells #[.int .i64 (k : Int), .int .i64 (ss : Int), .string (strN D)] 58)
        have HX5 := hide (heap_last (w3.alloc (.cells #[.int .i64 (k : Int), .int .i64 (ss : Int), .string (strN D)] 58)) (.cells #[.int .i64 (k : Int), .int .i64 (ss : Int), .string (strN D)] 58))
        have HR5 := hide (((HRf.out.below hb3).below hb4).below hb5)
        have HB5 := hide (keepB hb5 (Nat.le_refl _) (keepB hb4 (Nat.le_refl _) (keepB hb3 (Nat.le_refl _) HB.out)))
        clear hb3 hb4 hb5 HRd HRf HB
        go_wp2_with (refine wpList_append_rf rfl (.tmp 37) (.tmp 39) rfl u6 w.heap.size fs (w3.heap.size + 1) 1 ⟨k, ss, D⟩ 58 (0, 0) rfl rfl HR5.out HB5.out.size (by have := HX5.out; simpa using this) (by omega) ?_)
        intro v6 w6 HR6 HG6
        refine of_hid ?_
        have HB6 : Hid (Below w.heap.size w w6) := hide (HB5.out.trans ⟨HG6.out.os, HG6.out.tape, HG6.out.output, HG6.out.size, fun j hj => HG6.out.block j (by have := HB5.out.size; omega) (fun e => by have := (World.ownsRow.lt HR5.out j e.symm).1; omega)⟩)
        clear HR5 HB5 HG6 HX5
        go_wp2
        go_roundw
        case rel => exact ⟨_, z + q, by go_num, HDs.out, HR6.out, HB6.out⟩
        case measure => simp [intOf]; omega
    · have d1 : decide ((z : Int) < (L.length : Int)) = false := by simp; omega
      have d1' : decide (z < L.length) = false := by simp; omega
      have HFe := hide (HDn.out.stop (c := 30) (p := 0) (by rw [List.drop_eq_nil_of_le (by omega)]; rfl))
      go_wp2
      refine bodyPost_ret (v := .tuple #[u6, .int .i64 (z : Int), .int .i64 0, .int .i64 0]) ?_ rfl ⟨u6, fs, z, 30, 0, rfl, HFe.out, HRf.out, HB.out⟩
      simp [results, Tryd.results24]
end Go.Proofs.YtofflmhfffphdaaDoor.Gk
/- The laws' plain (layer 5). -/
namespace Go.Proofs.YtofflmhfffphdaaDoor.Gp
set_option linter.unusedVariables false
set_option linter.unusedSimpArgs false
set_option maxRecDepth 100000
open Go.ChangeShapes Go.WideShapes Go.ChangeAt Go.RowKit
open Go.Proofs.YtofflmhfffphdaaDoor.Wu Go.Proofs.YtofflmhfffphdaaDoor.Sm Go.Proofs.YtofflmhfffphdaaDoor.Sh Go.Proofs.YtofflmhfffphdaaDoor.Ba Go.Proofs.YtofflmhfffphdaaDoor.Bp Go.Proofs.YtofflmhfffphdaaDoor.Bs Go.Proofs.YtofflmhfffphdaaDoor.Fc
theorem load_plain {W : World} {b : Nat} {x y z : Value} {T : TypeId} {f : Nat × Nat} (h : W.heap[b]? = some (.cells #[x, y, z] T f)) : Sem.run Tryd.prog (loadVar 58 ⟨b, 0, none⟩) W = .ok (.agg #[x, y, z]) W :=
  run_loadVar_mid (P := Tryd.prog) W b 0 58 [x, y, z] _ (range3 h) Tryd.underlying58 rfl (by kernel_rfl)
set_option maxRecDepth 100000 in
theorem plain_c (k s : Int) (a : Option Addr) (l c : Nat) (D : List Nat) (w : World) (hs : SrcB w a l D) :
    Calls Tryd.prog 28 #[.agg #[.int .i64 k, .int .i64 s, .slice a l c]] w fun e w' => e = .returned (.agg #[.int .i64 k, .int .i64 s, .string (strN D)]) ∧ Below w.heap.size w w' := by
  have HV := hide (fun u (hu : Below w.heap.size w u) => conv_src (cap := c) (hs.below hu))
  clear hs
  go_enter Tryd.func28, Tryd.ntmps28
  go_wp2_with fail
  have hb1 := (below_new w (.cells #[.int .i64 k, .int .i64 s, .slice a l c] 56))
  have hb2 := keepB (below_new (w.alloc (.cells #[.int .i64 k, .int .i64 s, .slice a l c] 56)) (.cells #[.int .i64 0, .int .i64 0, .string ⟨#[]⟩] 58)) (Nat.le_refl _) hb1
  have HR := hide (heap_last (w.alloc (.cells #[.int .i64 k, .int .i64 s, .slice a l c] 56)) (.cells #[.int .i64 0, .int .i64 0, .string ⟨#[]⟩] 58))
  rw [HV.out _ hb2]
  have HB2 := hide hb2
  rw [World.size_alloc] at HR
  clear hb1 hb2
  generalize (w.alloc (.cells #[.int .i64 k, .int .i64 s, .slice a l c] 56)).alloc (.cells #[.int .i64 0, .int .i64 0, .string ⟨#[]⟩] 58) = w2 at *
  have f0 : w2.cell? ⟨w.heap.size + 1, 0, none⟩ = some (.int .i64 0) := blk_cell HR.out rfl
  have f1 : w2.cell? ⟨w.heap.size + 1, 1, none⟩ = some (.int .i64 0) := blk_cell HR.out rfl
  have f2 : w2.cell? ⟨w.heap.size + 1, 2, none⟩ = some (.string ⟨#[]⟩) := blk_cell HR.out rfl
  have z0 : w2.frozen? ⟨w.heap.size + 1, 0, none⟩ = false := blk_free HR.out
  have z1 : w2.frozen? ⟨w.heap.size + 1, 1, none⟩ = false := blk_free HR.out
  have z2 : w2.frozen? ⟨w.heap.size + 1, 2, none⟩ = false := blk_free HR.out
  go_wp2_with fail
  have HL := hide (load_plain (set_frame HR.out (.int .i64 k) (.int .i64 s) (.string (strN D))))
  have HB5 := hide (belowG HB2.out (grown_setCell (grown_setCell (grown_setCell (World.grownBy.refl w2 (some (w.heap.size + 1))) 0 (.int .i64 k)) 1 (.int .i64 s)) 2 (.string (strN D))) (by omega) HB2.out.size)
  refine bodyPost_ret (v := .agg #[.int .i64 k, .int .i64 s, .string (strN D)]) ?_ rfl ⟨rfl, HB5.out⟩
  simp [results, Tryd.results28, asAddr, HL.out]
end Go.Proofs.YtofflmhfffphdaaDoor.Gp
/- A slice of bytes that came in, as bytes. -/
namespace Go.Proofs.YtofflmhfffphdaaDoor.Bo
set_option linter.unusedVariables false
set_option linter.unusedSimpArgs false
set_option maxRecDepth 100000
open Go.ChangeShapes Go.WideShapes Go.ChangeAt Go.RowKit
open Go.Proofs.YtofflmhfffphdaaDoor.Wu Go.Proofs.YtofflmhfffphdaaDoor.Sm Go.Proofs.YtofflmhfffphdaaDoor.Sh Go.Proofs.YtofflmhfffphdaaDoor.Ba
theorem u8_bd {z : Int} (h : (Lit.int .u8 z).wf = true) : 0 ≤ z ∧ z < 256 := by
  simp [Lit.wf, IntKind.min, IntKind.max, IntKind.signed, IntKind.bits] at h
  omega
theorem src_of_row {w : World} {a : Option Addr} {len cap : Nat} {zs : List Int} (h : (a = none ∧ len = 0 ∧ cap = 0 ∧ zs = []) ∨
      ∃ x, a = some x ∧ len ≤ cap ∧ cap ≤ maxLen ∧ zs.length = cap ∧ (∀ i, i < zs.length → w.cell? (x.add i) = some (.int .u8 (zs.getD i 0))) ∧ ∀ n ∈ zs, (Lit.int .u8 n).wf = true) :
    ∃ L : List Nat, SrcB w a len L ∧ len ≤ cap ∧ cap ≤ 9223372036854775807 ∧ (a = none → len = 0) := by
  rcases h with ⟨rfl, rfl, rfl, rfl⟩ | ⟨⟨b, off, spot⟩, rfl, hl, hm, hz, hcell, hwz⟩
  · exact ⟨[], SrcB.nil w none, Nat.le_refl _, by omega, fun _ => rfl⟩
  · unfold maxLen at hm
    refine ⟨(zs.take len).map Int.toNat, ⟨by simp; omega, ?_, b, off, fun h0 => ?_, fun i hi => ?_⟩, hl, by omega, fun h => by cases h⟩
    · intro x hx
      obtain ⟨z, hz1, rfl⟩ := List.mem_map.1 hx
      have := u8_bd (hwz z (List.mem_of_mem_take hz1))
      omega
    · have hc := hcell 0 (by omega)
      have hspot : spot = none := by simpa [Addr.add] using World.cell?_spot hc
      rw [hspot]
    · have hc0 := hcell 0 (by omega)
      have hspot : spot = none := by simpa [Addr.add] using World.cell?_spot hc0
      subst hspot
      have := hcell i (by omega)
      have e : (⟨b, off, none⟩ : Addr).add i = ⟨b, off + i, none⟩ := by
        by_cases h : i = 0
        · subst h; simp [Addr.add]
        · simp [Addr.add, h]
      rw [e] at this
      rw [this]
      have hi' : i < zs.length := by omega
      have hb := u8_bd (hwz zs[i] (List.getElem_mem hi'))
      have e2 : zs.getD i 0 = zs[i] := by simp [List.getD, hi']
      have e3 : ((zs.take len).map Int.toNat).getD i 0 = zs[i].toNat := by
        simp [List.getD, List.getElem?_take_of_lt hi, hi']
      rw [e2, e3]
      congr 2
      omega
end Go.Proofs.YtofflmhfffphdaaDoor.Bo
/- Opening an argument that is a slice of slices of bytes. -/
namespace Go.Proofs.YtofflmhfffphdaaDoor.Ro
set_option linter.unusedVariables false
set_option linter.unusedSimpArgs false
set_option maxRecDepth 100000
open Go.RowKit Go.WideShapes Go.ChangeShapes Go.Deep
open Go.Proofs.YtofflmhfffphdaaDoor.Wu Go.Proofs.YtofflmhfffphdaaDoor.Sm Go.Proofs.YtofflmhfffphdaaDoor.Sh Go.Proofs.YtofflmhfffphdaaDoor.Ba Go.Proofs.YtofflmhfffphdaaDoor.Bo
/-- Rows of bytes that came in, by their cells. -/
def IsRows (w : World) (a : Option Addr) (len cap : Nat) : Prop :=
  len ≤ cap ∧ cap ≤ 9223372036854775807 ∧ (0 < len → ∃ xb xo, a = some ⟨xb, xo, none⟩ ∧ ∀ i, i < len → ∃ (b : Option Addr) (l c : Nat) (D : List Nat),
    w.cell? ⟨xb, xo + i, none⟩ = some (.slice b l c) ∧ SrcB w b l D ∧ l ≤ c ∧ c ≤ 9223372036854775807 ∧ (b = none → l = 0))
theorem open_rows {H : Type} {enc : TypeId × Value → H} {w : World} {base : Nat} {held : Bool} {a : Option Addr} {len cap : Nat} {d : DataW H} {p : List MemPlace} {t u e : TypeId} (ht : Tryd.prog.underlying t = some (.slice u)) (hu : Tryd.prog.underlying u = some (.slice e)) (he : Tryd.prog.underlying e = some (.int .u8)) (hcu : Tryd.prog.cellsOf u = 1) (hce : Tryd.prog.cellsOf e = 1)
    (h : DataW.Trod enc Tryd.prog w base (fun _ => true) held t (.slice a len cap) d p) : IsRows w a len cap := by
  obtain ⟨fuel, hf⟩ := h
  rcases open_slice1 ht hcu hf with ⟨h0, _⟩ | ⟨⟨xb, xo, spot⟩, len', cap', m, n, V, D, Pl, h0, hb, hl, hm, hmm, _, hx⟩
  · simp [Value.cells] at h0
    obtain ⟨rfl, rfl, rfl⟩ := h0
    exact ⟨Nat.le_refl _, by omega, fun h => absurd h (by omega)⟩
  · simp [Value.cells] at h0
    obtain ⟨rfl, rfl, rfl⟩ := h0
    simp at hmm
    subst hmm
    unfold maxLen at hm
    refine ⟨hl, by omega, fun h0 => ?_⟩
    have hspot : spot = none := by simpa [Addr.add] using World.cell?_spot (hx 0 (by omega)).1
    subst hspot
    refine ⟨xb, xo, rfl, fun i hi => ?_⟩
    obtain ⟨h1, h2⟩ := hx i (by omega)
    rw [Addr.add_mid] at h1
    rcases open_ints hu he hce h2 with ⟨hcs, _⟩ | ⟨x, l, c, zs, hcs, _, hl', hm', hz, _, hcell, hwz⟩
    · simp at hcs
      rw [hcs] at h1
      exact ⟨none, 0, 0, [], h1, SrcB.nil w none, Nat.le_refl _, by omega, fun _ => rfl⟩
    · simp at hcs
      rw [hcs] at h1
      obtain ⟨D, e1, e2, e3, e4⟩ := src_of_row (w := w) (a := some x) (len := l) (cap := c) (zs := zs) (.inr ⟨x, rfl, hl', hm', by simpa using hz, hcell, hwz⟩)
      exact ⟨some x, l, c, D, h1, e1, e2, e3, e4⟩
end Go.Proofs.YtofflmhfffphdaaDoor.Ro
/- FeedPieces' walk. -/
namespace Go.Proofs.YtofflmhfffphdaaDoor.FeedPiecesW
set_option linter.unusedVariables false
set_option linter.unusedSimpArgs false
set_option maxRecDepth 100000
open Go.ChangeShapes Go.WideShapes Go.ChangeAt Go.RowKit
open Go.Proofs.YtofflmhfffphdaaDoor.Wu Go.Proofs.YtofflmhfffphdaaDoor.Sm Go.Proofs.YtofflmhfffphdaaDoor.Sh Go.Proofs.YtofflmhfffphdaaDoor.Ba Go.Proofs.YtofflmhfffphdaaDoor.Bp Go.Proofs.YtofflmhfffphdaaDoor.Bq Go.Proofs.YtofflmhfffphdaaDoor.Bs Go.Proofs.YtofflmhfffphdaaDoor.Cm Go.Proofs.YtofflmhfffphdaaDoor.Er Go.Proofs.YtofflmhfffphdaaDoor.Eu Go.Proofs.YtofflmhfffphdaaDoor.Cw Go.Proofs.YtofflmhfffphdaaDoor.Rk Go.Proofs.YtofflmhfffphdaaDoor.Fa Go.Proofs.YtofflmhfffphdaaDoor.Fh Go.Proofs.YtofflmhfffphdaaDoor.Fi Go.Proofs.YtofflmhfffphdaaDoor.Ga Go.Proofs.YtofflmhfffphdaaDoor.Gb Go.Proofs.YtofflmhfffphdaaDoor.Gc Go.Proofs.YtofflmhfffphdaaDoor.Gd Go.Proofs.YtofflmhfffphdaaDoor.Ge Go.Proofs.YtofflmhfffphdaaDoor.Gf Go.Proofs.YtofflmhfffphdaaDoor.Gh Go.Proofs.YtofflmhfffphdaaDoor.Gi Go.Proofs.YtofflmhfffphdaaDoor.Gk Go.Proofs.YtofflmhfffphdaaDoor.Ro
attribute [local go_sem] kUpon_value kUpon_skip kUpon_enter
def Post (w : World) (e : Ending) (w' : World) : Prop := e = .returned (.bool true) ∧ Below w.heap.size w w'
theorem strN_append (A B : List Nat) : strN A ++ strN B = strN (A ++ B) := by
  unfold strN strOfNums
  apply ByteArray.ext
  simp [ByteArray.data_append]
theorem add_strN (A B : List Nat) (hA : A.length ≤ 8000000) (hB : B.length ≤ 8000000) (u : World) : Sem.run Tryd.prog (Op.stringOp .add (strN A) (strN B)) u = .ok (.string (strN (A ++ B))) u := by
  have h := run_string_add (P := Tryd.prog) u (strN A) (strN B) (by rw [strN_size]; omega) (by rw [strN_size]; omega)
  rw [h, strN_append]
theorem eq_frame (k s : Int) (D : List Nat) (u : World) : Sem.run Tryd.prog (Op.equalIn 10000 58 (.agg #[.int .i64 k, .int .i64 s, .string (strN D)]) (.agg #[.int .i64 k, .int .i64 s, .string (strN D)])) u = .ok true u := by
  generalize strN D = X
  go_simp
theorem out_walk (a : Option Addr) (l c : Nat) (w : World) (he : Et w) (h : 60 < l) (hl : l ≤ 9223372036854775807) :
    Calls Tryd.prog 8 #[.slice a l c] w (Post w) := by
  have HC := hide (feeds_c w he)
  have d1 : decide ((60 : Int) < (l : Int)) = true := by simp; omega
  have d1' : decide (60 < l) = true := by simp; omega
  go_enter Tryd.func8, Tryd.ntmps8
  go_wp2_with fail
  refine HC.out.mono ?_
  rintro e w1 ⟨rfl, hb⟩
  have HB := hide hb
  clear hb HC
  go_wp2
  go_ret
  exact ⟨rfl, HB.out⟩
/-- What came so far. -/
structure P1 (w : World) (F i : Nat) (A : List Nat) (gs : List Fr) (s : FS) (v : Value) (wr : World) : Prop where
  next : z0.next A s gs
  feed : FeedAt wr F v w.heap.size s
  len : A.length ≤ i * 3000
  all : All8 A
  below : Below w.heap.size w wr
/-- The feed behind one piece more, by the document's answer. -/
theorem told {A D : List Nat} {s s3 : FS} {gs fs3 fs4 : List Fr} {z : Nat} {cc pp : Int} (h1 : z0.next A s gs) (h2 : s.next D s3 fs3) (hf : Fed (A ++ D) fs4 z cc pp) :
    gs ++ fs3 = fs4 ∧ s3.read = z ∧ s3.fe = allC cc ∧ s3.fa = allP z cc pp ∧ (allC cc = 0 → s3.held.length = (A ++ D).length - z) ∧ (allC cc ≠ 0 → s3.held.length = 0) := by
  obtain ⟨e1, e2⟩ := next_ok (next_next h1 h2) rfl hf
  have hc0 := readR_bad_ne hf.fits.2.2
  refine ⟨e1, ?_⟩
  rw [e2]
  unfold FS.after allC allP
  by_cases h30 : cc = 30
  · rw [if_pos h30, if_pos h30, if_pos h30]
    refine ⟨by simp [z0], rfl, rfl, fun _ => by simp [z0], fun h => absurd rfl h⟩
  · rw [if_neg h30, if_neg h30, if_neg h30]
    refine ⟨by simp [z0], rfl, by simp [z0], fun h => absurd h hc0, fun _ => rfl⟩
set_option maxHeartbeats 6400000 in
theorem walk (a : Option Addr) (len cap : Nat) (w : World) (he : Et w) (hf : IsRows w a len cap) (hl : len ≤ 60) :
    Calls Tryd.prog 8 #[.slice a len cap] w (Post w) := by
  have HC := hide (feeds_c w he)
  have HE : Hid (∀ u, Below w.heap.size w u → Et u) := hide (fun u hu => he.below hu (Nat.le_refl _))
  have HRs := hide hf.2.2
  have hcap := hf.1
  have hcap2 := hf.2.1
  clear he hf
  have d1 : decide ((60 : Int) < (len : Int)) = false := by simp; omega
  have d1' : decide (60 < len) = false := by simp; omega
  go_enter Tryd.func8, Tryd.ntmps8
  go_wp2_with fail
  refine HC.out.mono ?_
  rintro e w1 ⟨rfl, hb⟩
  have HB1 := hide hb
  clear hb HC
  have hb2 := below_new w1 (.cells #[.slice none 0 0, .int .i64 0, .int .i64 0, .int .i64 0] 44)
  have H0 : Hid (P1 w w1.heap.size 0 [] [] z0 (.slice none 0 0) (w1.alloc (.cells #[.slice none 0 0, .int .i64 0, .int .i64 0, .int .i64 0] 44))) := hide ⟨.inr ⟨rfl, 0, 30, 0, fed_nil, rfl⟩, FeedAt.new w1 w.heap.size, by simp, (by intro x hx; cases hx), keepB hb2 (Nat.le_refl _) HB1.out⟩
  have hFn : w.heap.size ≤ w1.heap.size := HB1.out.size
  clear hb2 HB1
  go_wp2_with fail
  generalize w1.alloc (.cells #[.slice none 0 0, .int .i64 0, .int .i64 0, .int .i64 0] 44) = w2 at *
  generalize w1.heap.size = F at *
  go_loopw [23, 4, 5, 6] (fun j all n over wr => ∃ i A gs s v, j = .int .i64 ((i : Nat) : Int) ∧ i ≤ len ∧ all = .string (strN A) ∧ n = .int .i64 ((gs.length : Nat) : Int) ∧ over = .bool (s.fe != 0) ∧ P1 w F i A gs s v wr) (fun j _ _ _ _ => len - (intOf j).toNat)
  case atStart => exact ⟨0, [], [], z0, _, rfl, Nat.zero_le _, rfl, rfl, rfl, H0.out⟩
  case round =>
    clear H0
    obtain ⟨i, A, gs, s, v, rfl, hi, rfl, rfl, rfl, hP⟩ := hrel
    have HP := hide hP
    have hAl := hP.len
    have hnf := next_fits hP.next
    simp only [z0, List.length_nil] at hnf
    clear hP
    by_cases hlt : i < len
    · obtain ⟨xb, xo, ha, hcells⟩ := HRs.out (by omega)
      obtain ⟨b, l, c, D, c0, hsD, hlc, hcm, hbn⟩ := hcells i hlt
      subst ha
      have k0 := keepC HP.out.below (Nat.le_refl _) c0
      have HSD := hide (hsD.below HP.out.below)
      have HSw := hide hsD
      have hDl := hsD.1
      have hD8 := hsD.2.1
      clear hcells c0 hsD
      by_cases hbig : 3000 < l
      · have d2 : decide ((3000 : Int) < (l : Int)) = true := by simp; omega
        have d2' : decide (3000 < l) = true := by simp; omega
        have HB := hide HP.out.below
        go_wp2
        go_ret
        exact ⟨rfl, HB.out⟩
      · have d2 : decide ((3000 : Int) < (l : Int)) = false := by simp; omega
        have d2' : decide (3000 < l) = false := by simp; omega
        go_wp2_with fail
        (with_reducible refine Calls.mono (add_c wr F v w.heap.size s b l c D HP.out.feed HSD.out hbn HP.out.below.size hFn (fun u hu => HE.out u (HP.out.below.trans hu)) (by omega) (by omega)) ?_)
        rintro e w3 ⟨u3, v3, s3, fs3, rfl, hn3, hf3, hr3, hk3, -⟩
        have HB3 := hide (hk3.toBelow HP.out.below HP.out.below.size hFn (fun k h => (Buf.own HP.out.feed.buf k h).1))
        have HF3 := hide hf3
        have HR3 := hide hr3
        have HN3 := hide hn3
        obtain ⟨a3, c3, hu3, hl3, hm3⟩ := hr3.form
        subst hu3
        clear hn3 hf3 hr3 hk3
        by_cases hfe : s.fe = 0
        · have e1 : (s.fe != 0) = false := by simp [hfe]
          rw [e1]
          have HV := hide (conv_src (cap := c) (HSw.out.below HB3.out))
          have HAd := hide (add_strN A D (by omega) (by omega))
          go_wp2_with fail
          rw [HV.out]
          have hAd := HAd.out
          go_wp2_with fail
          clear hAd
          have hA8 : All8 (A ++ D) := all8_append HP.out.all hD8
          have hADl : (A ++ D).length ≤ 180000 := by rw [List.length_append]; omega
          (with_reducible refine Calls.mono (refAll_c (A ++ D) w3 hA8 (by omega)) ?_)
          rintro e w4 ⟨v4, fs4, z, cc, pp, rfl, hfed, hrf4, hb4⟩
          obtain ⟨t1, t2, t3, t4, t5, t6⟩ := told HP.out.next HN3.out hfed
          have HNx := hide (next_next HP.out.next HN3.out)
          have hz := hfed.fits.1
          obtain ⟨a4, c4, hv4, hl4, hm4⟩ := hrf4.form
          subst hv4
          have HRf4 := hide hrf4
          have HB4 := hide hb4
          have hl : fs4.length = gs.length + fs3.length := by rw [← t1, List.length_append]
          rw [hl]
          obtain ⟨y, hy⟩ : ∃ y, y = allC cc := ⟨_, rfl⟩
          obtain ⟨P, hPd⟩ : ∃ P, P = allP z cc pp := ⟨_, rfl⟩
          rw [← hy] at t3 t5 t6 ⊢
          rw [← hPd] at t4 ⊢
          have Ht5 := hide t5
          have Ht6 := hide t6
          have Ht1 := hide t1
          have hF4 := HF3.out.below hb4
          obtain ⟨av, cv, hv3, -⟩ := hF4.buf.form
          have hc4 := hF4.cells
          rw [t2, t3, t4, hv3] at hc4
          have HF4 := hide hF4
          have HC4 := hide hc4
          have Ht3 := hide t3
          have hgl : gs.length ≤ 180000 := by omega
          have hfl3 : fs3.length ≤ 400000 := by
            have := next_fits HN3.out
            omega
          clear hrf4 hb4 hfed hy hPd t1 t2 t3 t4 t5 t6 hF4 hc4 hv3 HV HAd
          go_wp2_with fail
          refine (Gc.read_c HC4.out).mono ?_
          rintro e w5 ⟨rfl, rfl⟩
          go_wp2_with fail
          refine (Gc.err_c HC4.out).mono ?_
          intro e w5 hE
          obtain ⟨v5, rfl, hi5, hb5⟩ := hE.isErr
          have HI5 := hide hi5
          have HB5 := hide (keepB hb5 (Nat.le_refl _) HB4.out)
          have HC5 := hide (HC4.out.below hb5)
          have HRf5 := hide (HRf4.out.below hb5)
          clear hE hi5 hb5
          go_wp2_with fail
          refine (number_c v5 y _ w5 HI5.out (HE.out w5 (keepB HB5.out (Nat.le_refl _) HB3.out))).mono ?_
          rintro e w6 ⟨rfl, hb6⟩
          have HB6 := hide (keepB hb6 (Nat.le_refl _) HB5.out)
          have HC6 := hide (HC5.out.below hb6)
          have HFr6 := hide (HR3.out.below HB6.out)
          have HRf6 := hide (HRf5.out.below hb6)
          clear hb6 HI5 HC4 HC5 HR3 HRf4 HRf5
          obtain ⟨n3, hn3⟩ : ∃ n3, n3 = fs3.length := ⟨_, rfl⟩
          have Hn3 := hide hn3
          obtain ⟨n1, hn1⟩ : ∃ n1, n1 = gs.length := ⟨_, rfl⟩
          have Hn1 := hide hn1
          go_wp2_with fail
          rw [← hn3] at hfl3 hl3 ⊢
          rw [← hn1] at hgl ⊢
          clear hn3 hn1
          have hc3m : c3 ≤ 9223372036854775807 := by unfold maxLen at hm3; omega
          have hc4m : c4 ≤ 9223372036854775807 := by unfold maxLen at hm4; omega
          have hl4' : n1 + n3 ≤ c4 := by have := Hn3.out; have := Hn1.out; omega
          go_loopw [67] (fun j wr2 => ∃ q, j = .int .i64 ((q : Nat) : Int) ∧ q ≤ n3 ∧ Below w6.heap.size w6 wr2) (fun j _ => n3 - (intOf j).toNat)
          case atStart => exact ⟨0, rfl, Nat.zero_le _, Below.refl _ _⟩
          case round =>
            obtain ⟨q, rfl, hq, hb7⟩ := hrel
            have HB7 := hide hb7
            have HFr7 := hide (HFr6.out.below hb7)
            have HRf7 := hide (HRf6.out.below hb7)
            clear hb7
            by_cases hqn : q < n3
            · have hq3 : q < fs3.length := by have := Hn3.out; omega
              obtain ⟨f, hf⟩ : ∃ f, fs3[q]? = some f := ⟨fs3[q], List.getElem?_eq_getElem hq3⟩
              obtain ⟨g, cap', gd, capd, hs3, x0, x1, x2, hd, -⟩ := Frs.at HFr7.out q f hf
              obtain ⟨g4, cap4, hs4, y0, y1, y2⟩ := RFs.at HRf7.out (gs.length + q) f (by rw [← Ht1.out, List.getElem?_append_right (by omega), show gs.length + q - gs.length = q by omega]; exact hf)
              have q1 : a3 = some ⟨g, 0, none⟩ := by injection hs3
              have q2 : a4 = some ⟨g4, 0, none⟩ := by injection hs4
              clear hs3 hs4
              subst q1 q2
              rw [← Hn1.out] at y0 y1 y2
              rw [Nat.mul_comm] at x0 x1 x2 y0 y1 y2
              have HD7 := hide hd
              clear hd hf hq3
              obtain ⟨fk, fs', fd⟩ := f
              simp only at x0 x1 x2 y0 y1 y2 HD7
              go_wp2_with fail
              have hb8 := below_new wr (.cells #[.int .i64 (fk : Int), .int .i64 (fs' : Int), .slice (some ⟨gd, 0, none⟩) fd.length capd] 56)
              have HX8 := hide (heap_last wr (.cells #[.int .i64 (fk : Int), .int .i64 (fs' : Int), .slice (some ⟨gd, 0, none⟩) fd.length capd] 56))
              have HB8 := hide (keepB hb8 (Nat.le_refl _) HB7.out)
              have HY0 := hide (keepC hb8 (Nat.le_refl _) y0)
              have HY1 := hide (keepC hb8 (Nat.le_refl _) y1)
              have HY2 := hide (keepC hb8 (Nat.le_refl _) y2)
              have HS8 := hide (HD7.out.src.below hb8)
              clear hb8 x0 x1 x2 y0 y1 y2 HD7 HFr7 HRf7
              generalize wr.alloc (.cells #[.int .i64 (fk : Int), .int .i64 (fs' : Int), .slice (some ⟨gd, 0, none⟩) fd.length capd] 56) = w8 at *
              have HPl := hide (fun u (hu : Below w8.heap.size w8 u) => Gp.plain_c (fk : Int) (fs' : Int) (some ⟨gd, 0, none⟩) fd.length capd fd u (HS8.out.below hu))
              have hw : IntKind.i64.wrap ((n1 : Int) + (q : Int)) = (n1 : Int) + (q : Int) := IntWalk.i64_in _ (by omega)
              have mixed : Tryd.prog.follows Departure.mixedOrders = true := by kernel_rfl
              have heq := eq_frame (fk : Int) (fs' : Int) fd
              have hix : ((n1 : Int) + (q : Int)).toNat = n1 + q := by omega
              have hnn : (0 : Int) ≤ (n1 : Int) + (q : Int) := by omega
              refine wp_region_keep (fun u => Below w8.heap.size w8 u) mixed (by kernel_rfl) (Below.refl _ _).drew ?_
              repeat (first
                | (refine keep_step (v := ?_) (by rfl) (fun u K hS hK => ?_) ?_
                   rotate_left
                   · have r0 : u.cell? ⟨wr.heap.size, 0, none⟩ = _ := keepC hS (Nat.le_refl _) (blk_cell HX8.out rfl)
                     have r1 : u.cell? ⟨wr.heap.size, 1, none⟩ = _ := keepC hS (Nat.le_refl _) (blk_cell HX8.out rfl)
                     have r2 : u.cell? ⟨wr.heap.size, 2, none⟩ = _ := keepC hS (Nat.le_refl _) (blk_cell HX8.out rfl)
                     have s0 := keepC hS (Nat.le_refl _) HY0.out
                     have s1 := keepC hS (Nat.le_refl _) HY1.out
                     have s2 := keepC hS (Nat.le_refl _) HY2.out
                     (go_simp; first
                       | (with_reducible exact hK _ hS)
                       | (go_at_call 28; (with_reducible refine Calls.mono (HPl.out u hS) ?_); rintro e u2 ⟨rfl, hb⟩; exact hK _ (keepB hb (Nat.le_refl _) hS)))
                   simp only [Act.put, List.setIfInBounds_toArray, List.set_cons_zero, List.set_cons_succ]))
              refine keep_nil (fun w9 hS9 => ?_)
              have HB9 := hide (keepB hS9 (Nat.le_refl _) HB8.out)
              clear hS9 HB8 HY0 HY1 HY2 HS8 HPl HX8
              go_wp2
              go_roundw
              case rel => exact ⟨q + 1, by go_num, by omega, HB9.out⟩
              case measure => simp [intOf]; omega
            · have hqe : q = n3 := by omega
              have hb7 := HB7.out
              have hb37 := keepB hb7 (Nat.le_refl _) HB6.out
              have HBw := hide (keepB hb37 (Nat.le_refl _) HB3.out)
              have HC7 := hide (HC6.out.below hb7)
              have HNew : Hid (∀ u, Below wr.heap.size wr u → P1 w F (i + 1) (A ++ D) (gs ++ fs3) s3 v3 u) := hide (fun u hu => ⟨HNx.out, HF3.out.below (keepB hu (Nat.le_refl _) hb37), by rw [List.length_append]; omega, all8_append HP.out.all hD8, keepB hu (Nat.le_refl _) HBw.out⟩)
              obtain ⟨hh, hhd⟩ : ∃ hh, hh = s3.held.length := ⟨_, rfl⟩
              rw [← hhd] at HC7 Ht5 Ht6
              obtain ⟨m4, hm4s⟩ : ∃ m4, (strN (A ++ D)).size = m4 := ⟨_, rfl⟩
              have Hm4 : Hid (m4 = (A ++ D).length) := hide (by rw [← hm4s, strN_size])
              clear hqe hb7 hb37 HFr7 HRf7 HB7 HF3 HB3 HB4 HB5 HB6 HC6 HFr6 HRf6 HF4 HNx HN3 HP HSD HSw hhd
              by_cases hy0 : y = 0
              · have hh0 : (hh : Int) = (m4 : Int) - (z : Int) := by
                  have h1 := Ht5.out hy0
                  have h2 := Hm4.out
                  omega
                have hHe := held_c HC7.out
                rw [hh0] at hHe
                have HHe := hide hHe
                have Hy : Hid ((s3.fe != 0) = false) := hide (by rw [Ht3.out, hy0]; rfl)
                subst hy0
                have hm4b : m4 ≤ 180000 := by have := Hm4.out; omega
                clear hh0 hHe
                go_wp2_with fail
                refine HHe.out.mono ?_
                rintro e w9 ⟨rfl, rfl⟩
                have HN9 := hide (HNew.out wr (Below.refl _ _))
                clear HNew HHe HC7
                go_wp2
                go_roundw
                case rel => exact ⟨i + 1, A ++ D, gs ++ fs3, s3, v3, by go_num, by omega, rfl, by rw [List.length_append, Hn1.out, Hn3.out]; simp, by rw [Hy.out], HN9.out⟩
                case measure => simp [intOf]; omega
              · have e5 : (y != 0) = true := by simp; exact hy0
                have e6 : (y == 0) = false := by simp; exact hy0
                have hh0 : hh = 0 := Ht6.out hy0
                subst hh0
                have Hy : Hid ((s3.fe != 0) = true) := hide (by rw [Ht3.out]; exact e5)
                have Hy0 := hide hy0
                clear hy0
                go_wp2_with fail
                refine (Gc.err_c HC7.out).mono ?_
                intro e w9 hE
                obtain ⟨v9, rfl, hi9, hb9⟩ := hE.isErr
                rw [if_neg Hy0.out] at hi9
                have HI9 := hide hi9
                have HB9 := hide (keepB hb9 (Nat.le_refl _) HBw.out)
                have Hb9 := hide hb9
                clear hE hi9 hb9
                go_wp2_with fail
                refine (place_c v9 y P w9 HI9.out (HE.out w9 HB9.out)).mono ?_
                rintro e wa ⟨rfl, hba⟩
                have Hba := hide (keepB (w := wr) hba (Nat.le_refl _) Hb9.out)
                have HCa := hide (HC7.out.below Hba.out)
                have HNa := hide (HNew.out wa Hba.out)
                clear hba HI9 HB9 Hb9 HC7 HNew
                go_wp2_with fail
                refine (held_c HCa.out).mono ?_
                rintro e wb ⟨rfl, rfl⟩
                clear HCa
                go_wp2
                go_roundw
                case rel => exact ⟨i + 1, A ++ D, gs ++ fs3, s3, v3, by go_num, by omega, rfl, by rw [List.length_append, Hn1.out, Hn3.out]; simp, by rw [Hy.out], HNa.out⟩
                case measure => simp [intOf]; omega
        · have e1 : (s.fe != 0) = true := by simp [hfe]
          rw [e1]
          obtain ⟨e2, e3⟩ : s3 = s ∧ fs3 = [] := by
            rcases HN3.out with ⟨_, h1, h2⟩ | ⟨h, _⟩
            · exact ⟨h1, h2⟩
            · exact absurd h hfe
          subst e2 e3
          have HP3 : Hid (P1 w F (i + 1) A gs s3 v3 w3) := hide ⟨HP.out.next, HF3.out, by omega, HP.out.all, HB3.out⟩
          clear HP HF3 HR3 HN3 HB3 HSD
          go_wp2
          go_roundw
          case rel => exact ⟨i + 1, A, gs, s3, v3, by go_num, by omega, rfl, rfl, by rw [e1], HP3.out⟩
          case measure => simp [intOf]; omega
    · have HB := hide HP.out.below
      go_wp2
      go_ret
      exact ⟨rfl, HB.out⟩
end Go.Proofs.YtofflmhfffphdaaDoor.FeedPiecesW
