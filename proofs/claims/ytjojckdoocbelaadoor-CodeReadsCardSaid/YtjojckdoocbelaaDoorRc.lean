/- The reference's reader (layer 3): Piece, End; each as the machine of the program's reader says. -/
import Derived.Test.YtjojckdoocbelaaDoorRq
import Derived.Test.YtjojckdoocbelaaDoorCz
namespace Go.Proofs.YtjojckdoocbelaaDoor.Rc
set_option linter.unusedVariables false
set_option linter.unusedSimpArgs false
set_option maxRecDepth 100000
open Go.ChangeShapes Go.WideShapes Go.ChangeAt Go.RowKit
open Go.Proofs.YtjojckdoocbelaaDoor.Wu Go.Proofs.YtjojckdoocbelaaDoor.Sm Go.Proofs.YtjojckdoocbelaaDoor.Sh Go.Proofs.YtjojckdoocbelaaDoor.Ba Go.Proofs.YtjojckdoocbelaaDoor.Bs Go.Proofs.YtjojckdoocbelaaDoor.Cr Go.Proofs.YtjojckdoocbelaaDoor.Cs Go.Proofs.YtjojckdoocbelaaDoor.Cv Go.Proofs.YtjojckdoocbelaaDoor.Ra Go.Proofs.YtjojckdoocbelaaDoor.Rb Go.Proofs.YtjojckdoocbelaaDoor.Rq
theorem end_q (L : List Nat) (s : Rs) (v : Value) (w : World) (hm : L.length ≤ 281474976710656) (hat : s.at_ ≤ L.length) (hq : Qof L s v) :
    Calls Tryd.prog 31 #[v] w fun e w' => ∃ v', e = .returned v' ∧ Qof L (s.fin L.length) v' ∧ Below w.heap.size w w' := by
  obtain ⟨at_, bad, rfl, h1, h2⟩ := hq
  have hsz := strN_size L
  by_cases hfe : s.fe = 0
  · rw [h1 hfe, hfe]
    by_cases hl : s.at_ < L.length
    · have e1 : s.fin L.length = ⟨s.at_, (s.at_ : Int), 31⟩ := by unfold Rs.fin; rw [if_pos ⟨hfe, hl⟩]
      rw [e1]
      clear e1 h1 h2 hfe
      obtain ⟨p, fa, fe⟩ := s
      simp only at hl hat ⊢
      have d1 : decide ((p : Int) < (L.length : Int)) = true := by simp; omega
      have d1' : decide (p < L.length) = true := by simp; omega
      have HF := hide (fun u => fail_c L (p : Int) 0 bad (p : Int) 31 u)
      refine Calls.mono (R := fun e w' => e = .returned (qv L (p : Int) 31 (p : Int)) ∧ Below w.heap.size w w') ?_ ?_
      · go_enter Tryd.func31, Tryd.ntmps31
        go_wp2_with fail
        refine (HF.out _).mono ?_
        rintro e w1 ⟨rfl, hb⟩
        have hB := keepB hb (Nat.le_refl _) (below2 w _ _)
        have hR := below_blk hb (by simp) (heap_2b w _ _)
        have HB := hide hB
        have HR := hide hR
        obtain ⟨c0, c1, c2, c3, f0, f1, f2, f3⟩ := blk4 hR
        clear hb hB hR HF
        go_wp2
        have HL := load4 (set4 HR.out (.string (strN L)) (.int .i64 (p : Int)) (.int .i64 31) (.int .i64 (p : Int)))
        refine bodyPost_ret (v := qv L (p : Int) 31 (p : Int)) ?_ rfl ⟨rfl, belowG HB.out (grown4 w1 (w.heap.size + 1) _ _ _ _) (by omega) HB.out.size⟩
        simp [results, Tryd.results31, HL, asAddr]
      · rintro e w' ⟨rfl, hb⟩
        exact ⟨_, rfl, ⟨_, _, rfl, fun h => by simp at h, fun _ => rfl⟩, hb⟩
    · have e1 : s.fin L.length = s := by unfold Rs.fin; rw [if_neg (fun h => hl h.2)]
      rw [e1]
      have Hq : Hid (Qof L s (qv L (s.at_ : Int) 0 bad)) := ⟨_, bad, by rw [hfe], fun _ => rfl, fun h => absurd hfe h⟩
      generalize s.at_ = p at *
      have d1 : decide ((p : Int) < (L.length : Int)) = false := by simp; omega
      have d1' : decide (p < L.length) = false := by simp; omega
      clear e1 h1 h2 hfe
      refine Calls.mono (R := fun e w' => e = .returned (qv L (p : Int) 0 bad) ∧ Below w.heap.size w w') ?_ ?_
      · clear Hq
        go_enter Tryd.func31, Tryd.ntmps31
        go_wp2
        have HL := load4 (heap_2b w (.cells #[.string (strN L), .int .i64 (p : Int), .int .i64 0, .int .i64 bad] 44) (.cells #[.string (strN L), .int .i64 (p : Int), .int .i64 0, .int .i64 bad] 44))
        refine bodyPost_ret (v := qv L (p : Int) 0 bad) ?_ rfl ⟨rfl, below2 _ _ _⟩
        simp [results, Tryd.results31, HL, asAddr]
      · rintro e w' ⟨rfl, hb⟩
        exact ⟨_, rfl, Hq.out, hb⟩
  · rw [s.fin_stuck _ hfe]
    have Hq : Hid (Qof L s (qv L at_ s.fe bad)) := ⟨_, bad, rfl, h1, h2⟩
    generalize s.fe = fe at *
    have d1 : (fe == 0) = false := by simp [hfe]
    clear h1 h2 hfe
    refine Calls.mono (R := fun e w' => e = .returned (qv L at_ fe bad) ∧ Below w.heap.size w w') ?_ ?_
    · clear Hq
      go_enter Tryd.func31, Tryd.ntmps31
      go_wp2
      have HL := load4 (heap_2b w (.cells #[.string (strN L), .int .i64 at_, .int .i64 fe, .int .i64 bad] 44) (.cells #[.string (strN L), .int .i64 at_, .int .i64 fe, .int .i64 bad] 44))
      refine bodyPost_ret (v := qv L at_ fe bad) ?_ rfl ⟨rfl, below2 _ _ _⟩
      simp [results, Tryd.results31, HL, asAddr]
    · rintro e w' ⟨rfl, hb⟩
      exact ⟨_, rfl, Hq.out, hb⟩
end Go.Proofs.YtjojckdoocbelaaDoor.Rc
namespace Go.Proofs.YtjojckdoocbelaaDoor.Rc
set_option linter.unusedVariables false
set_option linter.unusedSimpArgs false
set_option maxRecDepth 100000
open Go.ChangeShapes Go.WideShapes Go.ChangeAt Go.RowKit
open Go.Proofs.YtjojckdoocbelaaDoor.Wu Go.Proofs.YtjojckdoocbelaaDoor.Sm Go.Proofs.YtjojckdoocbelaaDoor.Sh Go.Proofs.YtjojckdoocbelaaDoor.Ba Go.Proofs.YtjojckdoocbelaaDoor.Bs Go.Proofs.YtjojckdoocbelaaDoor.Cr Go.Proofs.YtjojckdoocbelaaDoor.Cs Go.Proofs.YtjojckdoocbelaaDoor.Cv Go.Proofs.YtjojckdoocbelaaDoor.Ra Go.Proofs.YtjojckdoocbelaaDoor.Rb Go.Proofs.YtjojckdoocbelaaDoor.Rq
theorem two_at {w wr : World} {L : List Nat} {at_ code bad : Int} (h : Two w L at_ code bad wr) (a' : Int) : Two w L a' code bad (wr.setCell ⟨w.heap.size, 1, none⟩ (.int .i64 a')) :=
  ⟨by simpa using blk_set (i := 1) h.r (.int .i64 a'), blk_set_other h.o (by omega) _, h.b.setCell (Nat.le_refl _) _⟩
theorem qof_form {L : List Nat} {s : Rs} {v : Value} (h : Qof L s v) : ∃ at_ bad : Int, v = qv L at_ s.fe bad ∧ (s.fe = 0 → at_ = (s.at_ : Int)) ∧ (s.fe ≠ 0 → bad = s.fa) := h
set_option maxHeartbeats 1600000 in
theorem piece_q (L : List Nat) (s : Rs) (v : Value) (w : World) (h8 : All8 L) (hm : L.length ≤ 281474976710656) (hat : s.at_ ≤ L.length) (hq : Qof L s v) :
    Calls Tryd.prog 27 #[v] w (RetQ w L (s.text L) (.string (strN (s.textV L)))) := by
  have HN := hide (fun u => num_q L s v u h8 hm hat hq)
  obtain ⟨at0, bad0, rfl, h1, h2⟩ := hq
  have hsz := strN_size L
  have HT0 : Hid (Two w L at0 s.fe bad0 ((w.alloc (.cells #[.string (strN L), .int .i64 at0, .int .i64 s.fe, .int .i64 bad0] 44)).alloc (.cells #[.string ⟨#[]⟩, .int .i64 0, .int .i64 0, .int .i64 0] 44))) := hide ⟨heap_2a _ _ _, heap_2b _ _ _, below2 _ _ _⟩
  have hna := Rs.num_at s L hat
  have hnm := Rs.numV_max s L
  have h0 : (s.num L).fe = 0 → s.fe = 0 := fun h => Classical.byContradiction fun h' => by rw [(s.num_stuck L h').1] at h; exact h' h
  have hz : (s.num L).fe ≠ 0 → s.numV L = 0 := fun h => by
    unfold Rs.num at h
    unfold Rs.numV
    by_cases hf : s.fe = 0
    · rw [if_pos hf] at h ⊢
      split at h <;> rename_i hn
      · exact absurd hf h
      · rfl
    · rw [if_neg hf]
  have Hh0 := hide h0
  have Hz := hide hz
  have H1 := hide h1
  clear h0 hz h1 h2 h8
  generalize hfe0 : s.fe = fe0 at HT0 HN ⊢
  have Hfe0 := hide hfe0
  clear hfe0
  go_enter Tryd.func27, Tryd.ntmps27
  go_wp2_with fail
  generalize ((w.alloc (.cells #[.string (strN L), .int .i64 at0, .int .i64 fe0, .int .i64 bad0] 44)).alloc (.cells #[.string ⟨#[]⟩, .int .i64 0, .int .i64 0, .int .i64 0] 44)) = w0 at *
  refine (HN.out w0).mono ?_
  rintro e w1 ⟨v1, rfl, hq1, hb⟩
  obtain ⟨at1, bad1, rfl, k1, k2⟩ := hq1
  have HT1 := hide (HT0.out.up hb)
  have hlt : w.heap.size < w1.heap.size := heap_lt HT1.out.r
  have K1 := hide k1
  have K2 := hide k2
  clear hb HT0 HN k1 k2
  obtain ⟨c0, c1, c2, c3, f0, f1, f2, f3⟩ := blk4 HT1.out.r
  go_upto_if 16 with (fail)
  have HT2 := hide (HT1.out.set at1 (s.num L).fe bad1)
  generalize ((((w1.setCell ⟨w.heap.size, 0, none⟩ (.string (strN L))).setCell ⟨w.heap.size, 1, none⟩ (.int .i64 at1)).setCell ⟨w.heap.size, 2, none⟩ (.int .i64 (s.num L).fe)).setCell ⟨w.heap.size, 3, none⟩ (.int .i64 bad1)) = w2 at *
  clear c0 c1 c2 c3 f0 f1 f2 f3 HT1 hlt
  obtain ⟨c0, c1, c2, c3, f0, f1, f2, f3⟩ := blk4 HT2.out.r
  obtain ⟨r0, r1, r2, r3, g0, g1, g2, g3⟩ := blk4 HT2.out.o
  by_cases hf1 : (s.num L).fe = 0
  · have e1 := K1.out hf1
    have e0 := H1.out (Hh0.out hf1)
    subst e1
    subst e0
    have hbn : ((s.num L).fe != 0) = false := by rw [hf1]; rfl
    rw [hf1] at HT2 c2 ⊢
    have Hp1 : Hid (4096 < s.numV L → s.text L = ⟨s.at_, (s.at_ : Int), 2⟩ ∧ s.textV L = []) := fun hb => by
      have e : s.pre L = ⟨(s.num L).at_, (s.at_ : Int), 2⟩ := by
        unfold Rs.pre Rs.mid
        rw [if_pos hb, Rs.has_stuck _ _ _ (by simp)]
      unfold Rs.text Rs.textV
      rw [e, if_neg (by simp), if_neg (by simp)]
      exact ⟨rfl, rfl⟩
    have Hp2 : Hid (¬ 4096 < s.numV L → L.length < (s.num L).at_ + s.numV L → s.text L = ⟨s.at_, (L.length : Int), 30⟩ ∧ s.textV L = []) := fun hb hl => by
      have e : s.pre L = ⟨(s.num L).at_, (L.length : Int), 30⟩ := by
        unfold Rs.pre Rs.mid
        rw [if_neg hb]
        unfold Rs.has
        rw [if_pos ⟨hf1, hl⟩]
      unfold Rs.text Rs.textV
      rw [e, if_neg (by simp), if_neg (by simp)]
      exact ⟨rfl, rfl⟩
    have Hp3 : Hid (¬ 4096 < s.numV L → ¬ L.length < (s.num L).at_ + s.numV L → s.text L = ⟨(s.num L).at_ + s.numV L, (s.num L).fa, (s.num L).fe⟩ ∧ s.textV L = (L.drop (s.num L).at_).take (s.numV L)) := fun hb hl => by
      have e : s.pre L = s.num L := by
        unfold Rs.pre Rs.mid
        rw [if_neg hb]
        unfold Rs.has
        rw [if_neg (fun h => hl h.2)]
      unfold Rs.text Rs.textV
      rw [e, if_pos hf1, if_pos hf1]
      exact ⟨rfl, rfl⟩
    generalize s.numV L = n at *
    generalize hs1 : s.num L = s1 at *
    obtain ⟨p1, fa1, fe1⟩ := s1
    simp only at *
    subst hf1
    clear hs1 hbn Hz
    by_cases hbig : 4096 < n
    · have d1 : decide ((4096 : Int) < (n : Int)) = true := by simp; omega
      have d1' : decide (4096 < n) = true := by simp; omega
      have Hp := Hp1.out hbig
      have HP := hide Hp
      clear Hp Hp1 Hp2 Hp3
      go_wp2_with fail
      refine (fail_c L (p1 : Int) 0 bad1 (s.at_ : Int) 2 w2).mono ?_
      rintro e w3 ⟨rfl, hb⟩
      have HT3 := hide (HT2.out.up hb)
      clear hb c0 c1 c2 c3 f0 f1 f2 f3 r0 r1 r2 r3 g0 g1 g2 g3 HT2
      obtain ⟨r0, r1, r2, r3, g0, g1, g2, g3⟩ := blk4 HT3.out.o
      go_wp2
      have HL := HT3.out.res (p1 : Int) 2 (s.at_ : Int)
      refine bodyPost_ret (v := .tuple #[qv L (p1 : Int) 2 (s.at_ : Int), .string ⟨#[]⟩]) ?_ rfl ?_
      · simp [results, Tryd.results27, HL.1, asAddr]
      · rw [HP.out.1, HP.out.2]
        exact ⟨_, rfl, ⟨_, _, rfl, fun h => by simp at h, fun _ => rfl⟩, HL.2⟩
    · have d1 : decide ((4096 : Int) < (n : Int)) = false := by simp; omega
      have d1' : decide (4096 < n) = false := by simp; omega
      by_cases hl : L.length < p1 + n
      · have d2 : decide ((L.length : Int) - (p1 : Int) < (n : Int)) = true := by simp; omega
        have HP := hide (Hp2.out hbig hl)
        clear Hp1 Hp2 Hp3
        go_wp2_with fail
        refine (fail_c L (p1 : Int) 0 bad1 (L.length : Int) 30 w2).mono ?_
        rintro e w3 ⟨rfl, hb⟩
        have HT3 := hide (HT2.out.up hb)
        clear hb c0 c1 c2 c3 f0 f1 f2 f3 r0 r1 r2 r3 g0 g1 g2 g3 HT2
        obtain ⟨r0, r1, r2, r3, g0, g1, g2, g3⟩ := blk4 HT3.out.o
        go_wp2
        have HL := HT3.out.res (p1 : Int) 30 (L.length : Int)
        refine bodyPost_ret (v := .tuple #[qv L (p1 : Int) 30 (L.length : Int), .string ⟨#[]⟩]) ?_ rfl ?_
        · simp [results, Tryd.results27, HL.1, asAddr]
        · rw [HP.out.1, HP.out.2]
          exact ⟨_, rfl, ⟨_, _, rfl, fun h => by simp at h, fun _ => rfl⟩, HL.2⟩
      · have d2 : decide ((L.length : Int) - (p1 : Int) < (n : Int)) = false := by simp; omega
        have HP := hide (Hp3.out hbig hl)
        clear Hp1 Hp2 Hp3
        have hsl := slice_str L p1 n (by omega)
        generalize hX : (L.drop p1).take n = X at *
        clear hX
        go_wp2
        have HL := (two_at HT2.out ((p1 : Int) + (n : Int))).res ((p1 : Int) + (n : Int)) 0 bad1
        refine bodyPost_ret (v := .tuple #[qv L ((p1 : Int) + (n : Int)) 0 bad1, .string (strN X)]) ?_ rfl ?_
        · simp [results, Tryd.results27, HL.1, asAddr]
        · rw [HP.out.1, HP.out.2]
          exact ⟨_, rfl, ⟨_, _, rfl, fun _ => by simp, fun h => by simp at h⟩, HL.2⟩
  · have hb := bne0 hf1
    have hz := Hz.out hf1
    have Hp : Hid (s.text L = ⟨s.at_, (s.num L).fa, (s.num L).fe⟩ ∧ s.textV L = []) := by
      have e : s.pre L = s.num L := by
        unfold Rs.pre Rs.mid
        rw [hz, if_neg (by omega), (s.num L).has_stuck _ _ hf1]
      unfold Rs.text Rs.textV
      rw [e, if_neg hf1, if_neg hf1]
      exact ⟨rfl, rfl⟩
    rw [hz]
    have Hf1 := hide hf1
    clear hz hf1
    generalize hs1 : s.num L = s1 at *
    obtain ⟨p1, fa1, fe1⟩ := s1
    simp only at *
    clear hs1
    go_wp2
    have HL := HT2.out.res at1 fe1 bad1
    refine bodyPost_ret (v := .tuple #[qv L at1 fe1 bad1, .string ⟨#[]⟩]) ?_ rfl ?_
    · simp [results, Tryd.results27, HL.1, asAddr]
    · rw [Hp.out.1, Hp.out.2]
      exact ⟨_, rfl, ⟨_, _, rfl, fun h => absurd h Hf1.out, K2.out⟩, HL.2⟩
end Go.Proofs.YtjojckdoocbelaaDoor.Rc
