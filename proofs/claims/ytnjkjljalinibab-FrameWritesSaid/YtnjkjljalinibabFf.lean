/- The document's frames: Check, Write; the laws' plain. -/
import Derived.Test.YtnjkjljalinibabFc
import Derived.Test.YtnjkjljalinibabRn
import Derived.Test.YtnjkjljalinibabRm
namespace Go.Proofs.Ytnjkjljalinibab.Ff
set_option linter.unusedVariables false
set_option linter.unusedSimpArgs false
open Go.ChangeShapes Go.WideShapes Go.ChangeAt Go.RowKit
open Go.Proofs.Ytnjkjljalinibab.Wu Go.Proofs.Ytnjkjljalinibab.Sm Go.Proofs.Ytnjkjljalinibab.Sh Go.Proofs.Ytnjkjljalinibab.Ba Go.Proofs.Ytnjkjljalinibab.Bp Go.Proofs.Ytnjkjljalinibab.Bq Go.Proofs.Ytnjkjljalinibab.Bz Go.Proofs.Ytnjkjljalinibab.Cm Go.Proofs.Ytnjkjljalinibab.Cn Go.Proofs.Ytnjkjljalinibab.Bs Go.Proofs.Ytnjkjljalinibab.Cy Go.Proofs.Ytnjkjljalinibab.Rn Go.Proofs.Ytnjkjljalinibab.Fa Go.Proofs.Ytnjkjljalinibab.Fc Go.Proofs.Ytnjkjljalinibab.Rk Go.Proofs.Ytnjkjljalinibab.Rm
attribute [local go_sem] kUpon_value kUpon_skip kUpon_enter
theorem load_plain {W : World} {b : Nat} {x y z : Value} {T : TypeId} {f : Nat × Nat} (h : W.heap[b]? = some (.cells #[x, y, z] T f)) : Sem.run Try.prog (loadVar 34 ⟨b, 0, none⟩) W = .ok (.agg #[x, y, z]) W :=
  run_loadVar_mid (P := Try.prog) W b 0 34 [x, y, z] _ (range3 h) Try.underlying34 rfl (by kernel_rfl)
set_option maxRecDepth 100000 in
theorem plain_c (k s : Int) (a : Option Addr) (l c : Nat) (D : List Nat) (w : World) (hs : SrcB w a l D) :
    Calls Try.prog 12 #[.agg #[.int .i64 k, .int .i64 s, .slice a l c]] w fun e w' => e = .returned (.agg #[.int .i64 k, .int .i64 s, .string (strN D)]) ∧ Below w.heap.size w w' := by
  have HV := hide (fun u (hu : Below w.heap.size w u) => conv_src (cap := c) (hs.below hu))
  clear hs
  go_enter Try.func12, Try.ntmps12
  go_wp2_with fail
  have hb1 := (below_new w (.cells #[.int .i64 k, .int .i64 s, .slice a l c] 27))
  have hb2 := keepB (below_new (w.alloc (.cells #[.int .i64 k, .int .i64 s, .slice a l c] 27)) (.cells #[.int .i64 0, .int .i64 0, .string ⟨#[]⟩] 34)) (Nat.le_refl _) hb1
  have HR := hide (heap_last (w.alloc (.cells #[.int .i64 k, .int .i64 s, .slice a l c] 27)) (.cells #[.int .i64 0, .int .i64 0, .string ⟨#[]⟩] 34))
  rw [HV.out _ hb2]
  have HB2 := hide hb2
  rw [World.size_alloc] at HR
  clear hb1 hb2
  generalize (w.alloc (.cells #[.int .i64 k, .int .i64 s, .slice a l c] 27)).alloc (.cells #[.int .i64 0, .int .i64 0, .string ⟨#[]⟩] 34) = w2 at *
  have f0 : w2.cell? ⟨w.heap.size + 1, 0, none⟩ = some (.int .i64 0) := blk_cell HR.out rfl
  have f1 : w2.cell? ⟨w.heap.size + 1, 1, none⟩ = some (.int .i64 0) := blk_cell HR.out rfl
  have f2 : w2.cell? ⟨w.heap.size + 1, 2, none⟩ = some (.string ⟨#[]⟩) := blk_cell HR.out rfl
  have z0 : w2.frozen? ⟨w.heap.size + 1, 0, none⟩ = false := blk_free HR.out
  have z1 : w2.frozen? ⟨w.heap.size + 1, 1, none⟩ = false := blk_free HR.out
  have z2 : w2.frozen? ⟨w.heap.size + 1, 2, none⟩ = false := blk_free HR.out
  go_wp2_with fail
  have HL := hide (load_plain (set_frame HR.out (.int .i64 k) (.int .i64 s) (.string (strN D))))
  have HB5 := hide (belowG HB2.out (grown_setCell (grown_setCell (grown_setCell (World.grownBy.refl w2 (some (w.heap.size + 1))) 0 (.int .i64 k)) 1 (.int .i64 s)) 2 (.string (strN D))) (by omega) HB2.out.size)
  refine bodyPost_ret (v := .agg #[.int .i64 k, .int .i64 s, .string (strN D)]) ?_ rfl ⟨rfl, HB5.out⟩
  simp [results, Try.results12, asAddr, HL.out]
set_option maxHeartbeats 1600000 in
theorem refCheck_c (k s : Int) (D : List Nat) (w : World) (hl : D.length ≤ 9223372036854775807) :
    Calls Try.prog 19 #[.agg #[.int .i64 k, .int .i64 s, .string (strN D)]] w fun e w' => e = .returned (.int .i64 (chk k s D.length)) ∧ Below w.heap.size w w' := by
  have hz := strN_size D
  by_cases h1 : k < 1
  · have d1 : decide (k < 1) = true := by simp [h1]
    have HC : Hid (chk k s D.length = 40) := hide (by simp [chk, h1])
    go_enter Try.func19, Try.ntmps19
    go_wp2
    go_ret
    exact ⟨by rw [HC.out]; rfl, below_new w _⟩
  · have d1 : decide (k < 1) = false := by simp; omega
    by_cases h2 : 31 < k
    · have d2 : decide (31 < k) = true := by simp [h2]
      have HC : Hid (chk k s D.length = 40) := hide (by simp [chk, h2])
      go_enter Try.func19, Try.ntmps19
      go_wp2
      go_ret
      exact ⟨by rw [HC.out]; rfl, below_new w _⟩
    · have d2 : decide (31 < k) = false := by simp; omega
      by_cases h3 : s < 0
      · have d3 : decide (s < 0) = true := by simp [h3]
        have HC : Hid (chk k s D.length = 1) := hide (by simp [chk, h1, h2, h3])
        go_enter Try.func19, Try.ntmps19
        go_wp2
        go_ret
        exact ⟨by rw [HC.out]; rfl, below_new w _⟩
      · have d3 : decide (s < 0) = false := by simp; omega
        by_cases h4 : 7 < s
        · have d4 : decide (7 < s) = true := by simp [h4]
          have HC : Hid (chk k s D.length = 1) := hide (by simp [chk, h1, h2, h4])
          go_enter Try.func19, Try.ntmps19
          go_wp2
          go_ret
          exact ⟨by rw [HC.out]; rfl, below_new w _⟩
        · have d4 : decide (7 < s) = false := by simp; omega
          by_cases h5 : 16384 < D.length
          · have d5 : decide ((16384 : Int) < (D.length : Int)) = true := by simp; omega
            have d5' : decide (16384 < D.length) = true := by simp; omega
            have HC : Hid (chk k s D.length = 2) := hide (by simp [chk, h1, h2, h3, h4, h5])
            go_enter Try.func19, Try.ntmps19
            go_wp2
            go_ret
            exact ⟨by rw [HC.out]; rfl, below_new w _⟩
          · have d5 : decide ((16384 : Int) < (D.length : Int)) = false := by simp; omega
            have d5' : decide (16384 < D.length) = false := by simp; omega
            have HC : Hid (chk k s D.length = 0) := hide (by simp [chk, h1, h2, h3, h4, h5])
            go_enter Try.func19, Try.ntmps19
            go_wp2
            go_ret
            exact ⟨by rw [HC.out]; rfl, below_new w _⟩
theorem refWrite_bad (k s : Int) (D : List Nat) (w : World) (hl : D.length ≤ 9223372036854775807) (hk : chk k s D.length ≠ 0) :
    Calls Try.prog 11 #[.agg #[.int .i64 k, .int .i64 s, .string (strN D)]] w fun e w' => e = .returned (.tuple #[.string (strN []), .int .i64 (chk k s D.length)]) ∧ Below w.heap.size w w' := by
  have HC := hide (refCheck_c k s D (w.alloc (.cells #[.int .i64 k, .int .i64 s, .string (strN D)] 34)) hl)
  go_enter Try.func11, Try.ntmps11
  go_wp2_with fail
  refine HC.out.mono ?_
  rintro e w1 ⟨rfl, hb⟩
  have HB := hide (keepB hb (Nat.le_refl _) (below_new w (.cells #[.int .i64 k, .int .i64 s, .string (strN D)] 34)))
  clear HC hb
  obtain ⟨z, hz⟩ : ∃ z, z = chk k s D.length := ⟨_, rfl⟩
  rw [← hz] at hk ⊢
  have Hz := hide hz
  clear hz
  go_wp2
  go_ret2
  exact ⟨by rw [← Hz.out]; rfl, HB.out⟩
/-- Where the walk through Write's text is: a byte has been laid, or read. -/
def stageW (x : Nat) (u : World) : List Value → Prop
  | [v] => ∃ b, v = .slice (some ⟨b, 0, none⟩) 1 1 ∧ SrcB u (some ⟨b, 0, none⟩) 1 [x]
  | _ => True
structure TW (w : World) (cs : Array Value) (x : Nat) (h : List Value) (u : World) : Prop where
  below : Below w.heap.size w u
  blk : u.heap[w.heap.size]? = some (.cells cs 34 (0, 0))
  stage : stageW x u h
theorem TW.up {w u u' : World} {cs : Array Value} {x : Nat} {h : List Value} (t : TW w cs x h u) (hb : Below u.heap.size u u') : TW w cs x h u' := by
  refine ⟨keepB hb (Nat.le_refl _) t.below, below_blk hb (heap_lt t.blk) t.blk, ?_⟩
  have s := t.stage
  unfold stageW at *
  split <;> simp only at s ⊢
  obtain ⟨b, h1, h2⟩ := s
  exact ⟨b, h1, h2.below hb⟩
set_option maxHeartbeats 1600000 in
set_option maxRecDepth 100000 in
theorem refWrite_ok (k s : Nat) (D : List Nat) (w : World) (hk1 : 1 ≤ k) (hk2 : k ≤ 31) (hs2 : s ≤ 7) (hl : D.length ≤ 16384) :
    Calls Try.prog 11 #[.agg #[.int .i64 (k : Int), .int .i64 (s : Int), .string (strN D)]] w fun e w' => e = .returned (.tuple #[.string (strN (frL k s D)), .int .i64 0]) ∧ Below w.heap.size w w' := by
  have HC := hide (refCheck_c (k : Int) (s : Int) D (w.alloc (.cells #[.int .i64 (k : Int), .int .i64 (s : Int), .string (strN D)] 34)) (by omega))
  have hz : chk (k : Int) (s : Int) D.length = 0 := by unfold chk; rw [if_neg (by omega), if_neg (by omega), if_neg (by omega)]
  rw [hz] at HC
  clear hz
  have hsz := strN_size D
  go_enter Try.func11, Try.ntmps11
  go_wp2_with fail
  refine HC.out.mono ?_
  rintro e w1 ⟨rfl, hb⟩
  have HB := hide (keepB hb (Nat.le_refl _) (below_new w (.cells #[.int .i64 (k : Int), .int .i64 (s : Int), .string (strN D)] 34)))
  have hblk := below_blk hb (by simp) (heap_last w (.cells #[.int .i64 (k : Int), .int .i64 (s : Int), .string (strN D)] 34))
  have c0 : w1.cell? ⟨w.heap.size, 0, none⟩ = some (.int .i64 (k : Int)) := blk_cell hblk rfl
  have c1 : w1.cell? ⟨w.heap.size, 1, none⟩ = some (.int .i64 (s : Int)) := blk_cell hblk rfl
  have c2 : w1.cell? ⟨w.heap.size, 2, none⟩ = some (.string (strN D)) := blk_cell hblk rfl
  have HBk := hide hblk
  clear HC hb hblk
  clear c0 c1 c2
  have h6 := numL_six D.length (by omega)
  obtain ⟨x, hx⟩ : ∃ x, x = 8 * k + s := ⟨_, rfl⟩
  obtain ⟨l, hlD⟩ : ∃ l, l = D.length := ⟨_, rfl⟩
  have hfr : frL k s D = x :: (numL l ++ D) := by unfold frL; rw [hx, hlD]; simp
  have Hfr := hide hfr
  have hx8 : x < 256 := by omega
  rw [← hlD] at hl h6 hsz
  have HA1 := hide (fun u : World => add_strN [x] (numL l) (by simp) (by omega) u)
  have HA2 := hide (fun u : World => add_strN (x :: numL l) D (by simp; omega) (by omega) u)
  have HT0 : Hid (TW w #[.int .i64 (k : Int), .int .i64 (s : Int), .string (strN D)] x [] w1.drew) := hide ⟨HB.out.drew, HBk.out, trivial⟩
  have Hx := hide hx
  have Hwr : Hid (IntKind.u8.wrap (IntKind.i64.wrap (IntKind.i64.wrap ((k : Int) * 8) + (s : Int))) = (x : Int)) := hide (by
    rw [IntWalk.i64_in ((k : Int) * 8) (by omega), IntWalk.i64_in ((k : Int) * 8 + (s : Int)) (by omega), IntKind.wrap_u8]
    omega)
  have HlD := hide hlD
  clear hfr hx hlD
  go_wp2_with fail
  refine wp_region_d (TW w #[.int .i64 (k : Int), .int .i64 (s : Int), .string (strN D)] x) [some ?_, some ?_, some ?_, some ?_, some ?_, some ?_, some ?_, none, none, some ?_, some ?_, some ?_, some ?_, some ?_, some ?_, some ?_, some ?_, some ?_, some ?_] (by kernel_rfl) (by kernel_rfl) [7, 8] rfl (by kernel_rfl) HT0.out ?_
  rotate_left 17
  repeat (
    refine lexF_step (by rfl) (fun h u K hT hK => ?_) ?_
    · have c0 : u.cell? ⟨w.heap.size, 0, none⟩ = some (.int .i64 (k : Int)) := blk_cell hT.blk rfl
      have c1 : u.cell? ⟨w.heap.size, 1, none⟩ = some (.int .i64 (s : Int)) := blk_cell hT.blk rfl
      have c2 : u.cell? ⟨w.heap.size, 2, none⟩ = some (.string (strN D)) := blk_cell hT.blk rfl
      (first
        | (go_simp; exact hK _ hT)
        | (go_simp; refine (refNum_mid l u (by omega)).mono ?_; rintro e u' ⟨rfl, hb⟩; exact hK _ (hT.up hb))
        | (have hadd := HA1.out; go_simp; exact hK _ hT)
        | (have hadd := HA2.out; go_simp; exact hK _ hT))
    simp only [Act.put, List.setIfInBounds_toArray, List.set_cons_zero, List.set_cons_succ])
  refine lexD_step (by rfl) (fun u K hT hK => ?_) (fun v17 => ?_)
  · go_simp
    rw [Hwr.out]
    have hb := below_new u (.cells #[.int .u8 (x : Int)] 5)
    exact hK _ _ ⟨keepB hb (Nat.le_refl _) hT.below, below_blk hb (heap_lt hT.blk) hT.blk, _, rfl, src_one (heap_last u _) hx8⟩
  simp only [Act.put, List.setIfInBounds_toArray, List.set_cons_zero, List.set_cons_succ]
  refine lexE_step (v := .string (strN [x])) (by rfl) (fun u K hT hK => ?_) ?_
  · obtain ⟨b, rfl, hs⟩ := hT.stage
    go_simp
    rw [conv_src hs]
    go_simp
    exact hK _ ⟨hT.below, hT.blk, trivial⟩
  simp only [Act.put, List.setIfInBounds_toArray, List.set_cons_zero, List.set_cons_succ]
  repeat (
    refine lexF_step (by rfl) (fun h u K hT hK => ?_) ?_
    · have c0 : u.cell? ⟨w.heap.size, 0, none⟩ = some (.int .i64 (k : Int)) := blk_cell hT.blk rfl
      have c1 : u.cell? ⟨w.heap.size, 1, none⟩ = some (.int .i64 (s : Int)) := blk_cell hT.blk rfl
      have c2 : u.cell? ⟨w.heap.size, 2, none⟩ = some (.string (strN D)) := blk_cell hT.blk rfl
      (first
        | (go_simp; exact hK _ hT)
        | (go_simp; refine (refNum_mid l u (by omega)).mono ?_; rintro e u' ⟨rfl, hb⟩; exact hK _ (hT.up hb))
        | (have hadd := HA1.out; go_simp; exact hK _ hT)
        | (have hadd := HA2.out; go_simp; exact hK _ hT))
    simp only [Act.put, List.setIfInBounds_toArray, List.set_cons_zero, List.set_cons_succ])
  refine lexD_nil (fun w3 hT => ?_)
  have HB3 := hide hT.below
  clear hT
  go_wp2
  go_ret2
  refine ⟨?_, HB3.out⟩
  rw [Hfr.out]
  rfl
end Go.Proofs.Ytnjkjljalinibab.Ff
