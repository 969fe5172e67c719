/- The reference's reader (layer 3): Piece, End; each as the machine of the program's reader says. -/
import Derived.Test.YtkinpbhbgeiflaaDoorRq
import Derived.Test.YtkinpbhbgeiflaaDoorCz
namespace Go.Proofs.YtkinpbhbgeiflaaDoor.Rc
set_option linter.unusedVariables false
set_option linter.unusedSimpArgs false
set_option maxRecDepth 100000
open Go.ChangeShapes Go.WideShapes Go.ChangeAt Go.RowKit
open Go.Proofs.YtkinpbhbgeiflaaDoor.Wu Go.Proofs.YtkinpbhbgeiflaaDoor.Sm Go.Proofs.YtkinpbhbgeiflaaDoor.Sh Go.Proofs.YtkinpbhbgeiflaaDoor.Ba Go.Proofs.YtkinpbhbgeiflaaDoor.Bs Go.Proofs.YtkinpbhbgeiflaaDoor.Cr Go.Proofs.YtkinpbhbgeiflaaDoor.Cs Go.Proofs.YtkinpbhbgeiflaaDoor.Cv Go.Proofs.YtkinpbhbgeiflaaDoor.Ra Go.Proofs.YtkinpbhbgeiflaaDoor.Rb Go.Proofs.YtkinpbhbgeiflaaDoor.Rq
theorem end_q (L : List Nat) (s : Rs) (v : Value) (w : World) (hm : L.length ≤ 281474976710656) (hat : s.at_ ≤ L.length) (hq : Qof L s v) :
    Calls Tryd.prog 69 #[v] w fun e w' => ∃ v', e = .returned v' ∧ Qof L (s.fin L.length) v' ∧ Below w.heap.size w w' := by
  obtain ⟨at_, bad, rfl, h1, h2⟩ := hq
  have hsz := strN_size L
  by_cases hfe : s.fe = 0
  · rw [h1 hfe, hfe]
    by_cases hl : s.at_ < L.length
    · have e1 : s.fin L.length = ⟨s.at_, (s.at_ : Int), 31⟩ := by unfold Rs.fin; rw [if_pos ⟨hfe, hl⟩]
      rw [e1]
      clear e1 h1 h2 hfe
      obtain ⟨p, fa, fe⟩ := s
      simp only at hl hat ⊢
      have d1 : decide ((p : Int) < (L.length : Int)) = true := by simp; omega
      have d1' : decide (p < L.length) = true := by simp; omega
      have HF := hide (fun u => fail_c L (p : Int) 0 bad (p : Int) 31 u)
      refine Calls.mono (R := fun e w' => e = .returned (qv L (p : Int) 31 (p : Int)) ∧ Below w.heap.size w w') ?_ ?_
      · go_enter Tryd.func69, Tryd.ntmps69
        go_wp2_with fail
        refine (HF.out _).mono ?_
        rintro e w1 ⟨rfl, hb⟩
        have hB := keepB hb (Nat.le_refl _) (below2 w _ _)
        have hR := below_blk hb (by simp) (heap_2b w _ _)
        have HB := hide hB
        have HR := hide hR
        obtain ⟨c0, c1, c2, c3, f0, f1, f2, f3⟩ := blk4 hR
        clear hb hB hR HF
        go_wp2
        have HL := load4 (set4 HR.out (.string (strN L)) (.int .i64 (p : Int)) (.int .i64 31) (.int .i64 (p : Int)))
        refine bodyPost_ret (v := qv L (p : Int) 31 (p : Int)) ?_ rfl ⟨rfl, belowG HB.out (grown4 w1 (w.heap.size + 1) _ _ _ _) (by omega) HB.out.size⟩
        simp [results, Tryd.results69, HL, asAddr]
      · rintro e w' ⟨rfl, hb⟩
        exact ⟨_, rfl, ⟨_, _, rfl, fun h => by simp at h, fun _ => rfl⟩, hb⟩
    · have e1 : s.fin L.length = s := by unfold Rs.fin; rw [if_neg (fun h => hl h.2)]
      rw [e1]
      have Hq : Hid (Qof L s (qv L (s.at_ : Int) 0 bad)) := ⟨_, bad, by rw [hfe], fun _ => rfl, fun h => absurd hfe h⟩
      generalize s.at_ = p at *
      have d1 : decide ((p : Int) < (L.length : Int)) = false := by simp; omega
      have d1' : decide (p < L.length) = false := by simp; omega
      clear e1 h1 h2 hfe
      refine Calls.mono (R := fun e w' => e = .returned (qv L (p : Int) 0 bad) ∧ Below w.heap.size w w') ?_ ?_
      · clear Hq
        go_enter Tryd.func69, Tryd.ntmps69
        go_wp2
        have HL := load4 (heap_2b w (.cells #[.string (strN L), .int .i64 (p : Int), .int .i64 0, .int .i64 bad] 141) (.cells #[.string (strN L), .int .i64 (p : Int), .int .i64 0, .int .i64 bad] 141))
        refine bodyPost_ret (v := qv L (p : Int) 0 bad) ?_ rfl ⟨rfl, below2 _ _ _⟩
        simp [results, Tryd.results69, HL, asAddr]
      · rintro e w' ⟨rfl, hb⟩
        exact ⟨_, rfl, Hq.out, hb⟩
  · rw [s.fin_stuck _ hfe]
    have Hq : Hid (Qof L s (qv L at_ s.fe bad)) := ⟨_, bad, rfl, h1, h2⟩
    generalize s.fe = fe at *
    have d1 : (fe == 0) = false := by simp [hfe]
    clear h1 h2 hfe
    refine Calls.mono (R := fun e w' => e = .returned (qv L at_ fe bad) ∧ Below w.heap.size w w') ?_ ?_
    · clear Hq
      go_enter Tryd.func69, Tryd.ntmps69
      go_wp2
      have HL := load4 (heap_2b w (.cells #[.string (strN L), .int .i64 at_, .int .i64 fe, .int .i64 bad] 141) (.cells #[.string (strN L), .int .i64 at_, .int .i64 fe, .int .i64 bad] 141))
      refine bodyPost_ret (v := qv L at_ fe bad) ?_ rfl ⟨rfl, below2 _ _ _⟩
      simp [results, Tryd.results69, HL, asAddr]
    · rintro e w' ⟨rfl, hb⟩
      exact ⟨_, rfl, Hq.out, hb⟩
end Go.Proofs.YtkinpbhbgeiflaaDoor.Rc
namespace Go.Proofs.YtkinpbhbgeiflaaDoor.Rc
set_option linter.unusedVariables false
set_option linter.unusedSimpArgs false
set_option maxRecDepth 100000
open Go.ChangeShapes Go.WideShapes Go.ChangeAt Go.RowKit
open Go.Proofs.YtkinpbhbgeiflaaDoor.Wu Go.Proofs.YtkinpbhbgeiflaaDoor.Sm Go.Proofs.YtkinpbhbgeiflaaDoor.Sh Go.Proofs.YtkinpbhbgeiflaaDoor.Ba Go.Proofs.YtkinpbhbgeiflaaDoor.Bs Go.Proofs.YtkinpbhbgeiflaaDoor.Cr Go.Proofs.YtkinpbhbgeiflaaDoor.Cs Go.Proofs.YtkinpbhbgeiflaaDoor.Cv Go.Proofs.YtkinpbhbgeiflaaDoor.Ra Go.Proofs.YtkinpbhbgeiflaaDoor.Rb Go.Proofs.YtkinpbhbgeiflaaDoor.Rq
theorem two_at {w wr : World} {L : List Nat} {at_ code bad : Int} (h : Two w L at_ code bad wr) (a' : Int) : Two w L a' code bad (wr.setCell ⟨w.heap.size, 1, none⟩ (.int .i64 a')) :=
  ⟨by simpa using blk_set (i := 1) h.r (.int .i64 a'), blk_set_other h.o (by omega) _, h.b.setCell (Nat.le_refl _) _⟩
theorem qof_form {L : List Nat} {s : Rs} {v : Value} (h : Qof L s v) : ∃ at_ bad : Int, v = qv L at_ s.fe bad ∧ (s.fe = 0 → at_ = (s.at_ : Int)) ∧ (s.fe ≠ 0 → bad = s.fa) := h
end Go.Proofs.YtkinpbhbgeiflaaDoor.Rc
