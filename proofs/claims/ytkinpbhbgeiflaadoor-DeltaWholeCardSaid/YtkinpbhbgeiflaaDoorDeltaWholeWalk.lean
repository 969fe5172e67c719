/- DeltaWhole's walk. -/
import Derived.Test.YtkinpbhbgeiflaaDoorQj
namespace Go.Proofs.YtkinpbhbgeiflaaDoor.DeltaWholeW
set_option linter.unusedVariables false
set_option linter.unusedSimpArgs false
set_option maxRecDepth 100000
open Go.ChangeShapes Go.WideShapes Go.ChangeAt Go.RowKit
open Go.Proofs.YtkinpbhbgeiflaaDoor.Wu Go.Proofs.YtkinpbhbgeiflaaDoor.Sm Go.Proofs.YtkinpbhbgeiflaaDoor.Sh Go.Proofs.YtkinpbhbgeiflaaDoor.Ba Go.Proofs.YtkinpbhbgeiflaaDoor.Bp Go.Proofs.YtkinpbhbgeiflaaDoor.Bq Go.Proofs.YtkinpbhbgeiflaaDoor.Bs Go.Proofs.YtkinpbhbgeiflaaDoor.Rk Go.Proofs.YtkinpbhbgeiflaaDoor.Da Go.Proofs.YtkinpbhbgeiflaaDoor.Db Go.Proofs.YtkinpbhbgeiflaaDoor.Dd Go.Proofs.YtkinpbhbgeiflaaDoor.De Go.Proofs.YtkinpbhbgeiflaaDoor.Dl Go.Proofs.YtkinpbhbgeiflaaDoor.Dm
open Go.Proofs.YtkinpbhbgeiflaaDoor.Sn (Fst fst_keep)
open Go.Proofs.YtkinpbhbgeiflaaDoor.Sxa (Tbl tbl_keep)
attribute [local go_sem] kUpon_value kUpon_skip kUpon_enter
/-- One token, cell by cell. -/
theorem one_cells {w : World} {N : Nat} {v : Value} {ps : List TV} {t0 : Tok} (h : OwnT w N v ps) (hp : ps.map (·.1) = [t0]) : ∃ g cap a m c, v = .slice (some ⟨g, 0, none⟩) 1 cap ∧ w.cell? ⟨g, 0, none⟩ = some (.int .i64 t0.f) ∧ w.cell? ⟨g, 1, none⟩ = some (.int .i64 t0.c) ∧ w.cell? ⟨g, 2, none⟩ = some (.slice a m c) ∧ SrcB w a m t0.d := by
  match ps, hp with
  | [(t, d)], hp =>
    simp only [List.map_cons, List.map_nil, List.cons.injEq, and_true] at hp
    subst hp
    rcases h.form with ⟨_, h0⟩ | ⟨g, cap, hv, -, -, -, -, hr, -⟩
    · cases h0
    obtain ⟨a, c, hd, hs, -⟩ := (h.buf (t, d) (by simp)).form
    have c0 := hr 0 _ rfl
    have c1 := hr 1 _ rfl
    have c2 := hr 2 _ rfl
    simp only at hd
    subst hd
    exact ⟨g, cap, a, _, c, hv, c0, c1, c2, hs⟩
set_option maxHeartbeats 1600000 in
theorem walk_any (a : Option Addr) (m c : Nat) (D : List Nat) (w : World) (hs : SrcB w a m D) (hc : m ≤ c) (hcm : c ≤ 9223372036854775807) (hn : a = none → m = 0) (hT : Tbl w) (hF : Fst w) :
    Calls Tryd.prog 9 #[.slice a m c] w fun e w' => e = .returned (.bool true) ∧ Below w.heap.size w w' := by
  have HT := hide (tells_c w hT hF)
  have HS := hide (fun (u : World) (hu : Below w.heap.size w u) => hs.below hu)
  have hDl := hs.1
  clear hs hT hF
  by_cases h5 : 5000 < m
  · have d1 : decide ((5000 : Int) < (m : Int)) = true := by simp; omega
    have d1' : decide (5000 < m) = true := by simp; omega
    clear hDl HS
    go_enter Tryd.func9, Tryd.ntmps9
    go_wp2_with fail
    refine HT.out.mono ?_
    rintro e w1 ⟨rfl, hb1⟩
    have HB1 := hide hb1
    clear hb1
    go_wp2
    go_ret
    exact ⟨rfl, HB1.out⟩
  · have d1 : decide ((5000 : Int) < (m : Int)) = false := by simp; omega
    have d1' : decide (5000 < m) = false := by simp; omega
    have HW := hide (fun (u : World) (hu : Below w.heap.size w u) => whole_c u a m c D (HS.out u hu) hn (by omega))
    by_cases h0 : m = 0
    · have Hl := hide (show D.length = 0 by omega)
      subst h0
      clear hDl
      go_enter Tryd.func9, Tryd.ntmps9
      go_wp2_with fail
      refine HT.out.mono ?_
      rintro e w1 ⟨rfl, hb1⟩
      have HB1 := hide hb1
      clear hb1 HT
      go_wp2_with fail
      refine (HW.out w1 HB1.out).mono ?_
      rintro e w2 ⟨v, ps, rfl, hps, ho, hb2⟩
      rw [if_pos Hl.out] at hps
      obtain rfl : ps = [] := by simpa using hps
      have HB2 := hide (keepB hb2 (Nat.le_refl _) HB1.out)
      rcases ho.form with ⟨rfl, -⟩ | ⟨g, cap, rfl, -⟩
      all_goals
        clear hb2 ho hps
        go_wp2
        go_ret
        exact ⟨rfl, HB2.out⟩
    · have e0 : ((m : Int) == 0) = false := by simpa using h0
      have e1 : (m == 0) = false := by simpa using h0
      have Hl := hide (show ¬ D.length = 0 by omega)
      clear hDl h0
      go_enter Tryd.func9, Tryd.ntmps9
      go_wp2_with fail
      refine HT.out.mono ?_
      rintro e w1 ⟨rfl, hb1⟩
      have HB1 := hide hb1
      clear hb1 HT
      go_wp2_with fail
      refine (HW.out w1 HB1.out).mono ?_
      rintro e w2 ⟨v, ps, rfl, hps, ho, hb2⟩
      rw [if_neg Hl.out] at hps
      obtain ⟨g, cap, ad, md, cd, rfl, c0, c1, c2, hsd⟩ := one_cells ho hps
      have HB2 := hide (keepB hb2 (Nat.le_refl _) HB1.out)
      have HCs := hide (fun (u : World) (hu : Below w2.heap.size w2 u) => (⟨keepC hu (Nat.le_refl _) c0, keepC hu (Nat.le_refl _) c1, keepC hu (Nat.le_refl _) c2, conv_src (cap := cd) (hsd.below hu), conv_src (cap := c) (HS.out u (keepB hu (Nat.le_refl _) HB2.out))⟩ :
        u.cell? ⟨g, 0, none⟩ = some (.int .i64 0) ∧ u.cell? ⟨g, 1, none⟩ = some (.int .i64 0) ∧ u.cell? ⟨g, 2, none⟩ = some (.slice ad md cd) ∧ Sem.run Tryd.prog (convert 22 9 (.slice ad md cd)) u = .ok (.string (strN D)) u ∧ Sem.run Tryd.prog (convert 22 9 (.slice a m c)) u = .ok (.string (strN D)) u))
      clear hb2 ho hps hsd c0 c1 c2 HW HS
      obtain ⟨X, hX⟩ : ∃ X, X = strN D := ⟨_, rfl⟩
      rw [← hX] at HCs
      clear hX
      have hXX : (X.toList == X.toList) = true := by simp
      go_wp2_with fail
      refine wp_region_keep (fun u => Below w2.heap.size w2 u) (by kernel_rfl) (by kernel_rfl) ((Below.refl _ _).drew) ?_
      repeat (first
        | (refine keep_not (by rfl) ?_
           simp only [Act.put, List.setIfInBounds_toArray, List.set_cons_zero, List.set_cons_succ])
        | (refine keep_step (v := ?_) (by rfl) (fun u K hS hK => ?_) ?_
           rotate_left
           · obtain ⟨c0, c1, c2, k1, k2⟩ := HCs.out u hS
             (go_simp; first
               | (rw [k1]; go_simp; with_reducible exact hK _ hS)
               | (rw [k2]; go_simp; with_reducible exact hK _ hS)
               | (with_reducible exact hK _ hS))
           simp only [Act.put, List.setIfInBounds_toArray, List.set_cons_zero, List.set_cons_succ]))
      refine keep_nil (fun w3 hS3 => ?_)
      have HB3 := hide (keepB hS3 (Nat.le_refl _) HB2.out)
      clear hS3 HB2 HCs
      go_wp2
      go_ret
      exact ⟨rfl, HB3.out⟩
end Go.Proofs.YtkinpbhbgeiflaaDoor.DeltaWholeW
