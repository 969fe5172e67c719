/- The reference's reader (layer 3): Sum. -/
import Derived.Test.YtjojckdoocbelaaDoorRc
import Derived.Test.YtjojckdoocbelaaDoorCx
import Derived.Test.YtjojckdoocbelaaDoorRx
import Derived.Test.YtjojckdoocbelaaDoorRg
namespace Go.Proofs.YtjojckdoocbelaaDoor.Rd
set_option linter.unusedVariables false
set_option linter.unusedSimpArgs false
set_option maxRecDepth 100000
open Go.ChangeShapes Go.WideShapes Go.ChangeAt Go.RowKit
open Go.Proofs.YtjojckdoocbelaaDoor.Wu Go.Proofs.YtjojckdoocbelaaDoor.Sm Go.Proofs.YtjojckdoocbelaaDoor.Sh Go.Proofs.YtjojckdoocbelaaDoor.Ba Go.Proofs.YtjojckdoocbelaaDoor.Bs Go.Proofs.YtjojckdoocbelaaDoor.Cr Go.Proofs.YtjojckdoocbelaaDoor.Cs Go.Proofs.YtjojckdoocbelaaDoor.Cv Go.Proofs.YtjojckdoocbelaaDoor.Cx Go.Proofs.YtjojckdoocbelaaDoor.Ra Go.Proofs.YtjojckdoocbelaaDoor.Rb Go.Proofs.YtjojckdoocbelaaDoor.Rq Go.Proofs.YtjojckdoocbelaaDoor.Rc Go.Proofs.YtjojckdoocbelaaDoor.Rg Go.Proofs.YtjojckdoocbelaaDoor.Rx
attribute [local go_sem] Rk.kUpon_value Rk.kUpon_skip Rk.kUpon_enter
theorem load_sum {W : World} {b : Nat} {X : List Nat} {T : TypeId} {f : Nat × Nat} (h : W.heap[b]? = some (.cells (u8s X) T f)) (hX : X.length = 32) : Sem.run Tryd.prog (loadVar 27 ⟨b, 0, none⟩) W = .ok (.agg (u8s X)) W := by
  have := run_loadVar_mid (P := Tryd.prog) W b 0 27 (u8s X).toList _ (range8_all h) Tryd.underlying27 rfl (by rw [Array.length_toList, u8s_size, hX]; kernel_rfl)
  rwa [Array.toArray_toList] at this
/-- The reader's variable, the results' two. -/
structure Tri (w : World) (L : List Nat) (at_ code bad : Int) (wr : World) : Prop where
  r : wr.heap[w.heap.size]? = some (.cells #[.string (strN L), .int .i64 at_, .int .i64 code, .int .i64 bad] 44 (0, 0))
  o : wr.heap[w.heap.size + 1]? = some (.cells #[.string ⟨#[]⟩, .int .i64 0, .int .i64 0, .int .i64 0] 44 (0, 0))
  z : wr.heap[w.heap.size + 2]? = some (.cells (u8s (zeros 32)) 27 (0, 0))
  b : Below w.heap.size w wr
section
variable {w wr w' : World} {L : List Nat} {at_ code bad : Int}
theorem Tri.up (h : Tri w L at_ code bad wr) (hb : Below wr.heap.size wr w') : Tri w L at_ code bad w' :=
  ⟨below_blk hb (heap_lt h.r) h.r, below_blk hb (heap_lt h.o) h.o, below_blk hb (heap_lt h.z) h.z, keepB hb (Nat.le_refl _) h.b⟩
theorem Tri.at (h : Tri w L at_ code bad wr) (a' : Int) : Tri w L a' code bad (wr.setCell ⟨w.heap.size, 1, none⟩ (.int .i64 a')) :=
  ⟨by simpa using blk_set (i := 1) h.r (.int .i64 a'), blk_set_other h.o (by omega) _, blk_set_other h.z (by omega) _, h.b.setCell (Nat.le_refl _) _⟩
/-- The reader's result is laid. -/
theorem Tri.lay (h : Tri w L at_ code bad wr) (a' c' b' : Int) :
    ((((wr.setCell ⟨w.heap.size + 1, 0, none⟩ (.string (strN L))).setCell ⟨w.heap.size + 1, 1, none⟩ (.int .i64 a')).setCell ⟨w.heap.size + 1, 2, none⟩ (.int .i64 c')).setCell ⟨w.heap.size + 1, 3, none⟩ (.int .i64 b')).heap[w.heap.size + 1]? = some (.cells #[.string (strN L), .int .i64 a', .int .i64 c', .int .i64 b'] 44 (0, 0)) ∧
    ((((wr.setCell ⟨w.heap.size + 1, 0, none⟩ (.string (strN L))).setCell ⟨w.heap.size + 1, 1, none⟩ (.int .i64 a')).setCell ⟨w.heap.size + 1, 2, none⟩ (.int .i64 c')).setCell ⟨w.heap.size + 1, 3, none⟩ (.int .i64 b')).heap[w.heap.size + 2]? = some (.cells (u8s (zeros 32)) 27 (0, 0)) ∧
    Below w.heap.size w ((((wr.setCell ⟨w.heap.size + 1, 0, none⟩ (.string (strN L))).setCell ⟨w.heap.size + 1, 1, none⟩ (.int .i64 a')).setCell ⟨w.heap.size + 1, 2, none⟩ (.int .i64 c')).setCell ⟨w.heap.size + 1, 3, none⟩ (.int .i64 b')) :=
  ⟨set4 h.o _ _ _ _, keepG (grown4 wr (w.heap.size + 1) _ _ _ _) (by omega) h.z, belowG h.b (grown4 wr (w.heap.size + 1) _ _ _ _) (by omega) h.b.size⟩
end
/-- Where the walk through the last statement is. -/
def stage (w : World) (L : List Nat) (at_ bad : Int) (X : List Nat) (u : World) : List Value → Prop
  | [] => u.heap[w.heap.size + 1]? = some (.cells #[.string ⟨#[]⟩, .int .i64 0, .int .i64 0, .int .i64 0] 44 (0, 0)) ∧ u.heap[w.heap.size + 2]? = some (.cells (u8s (zeros 32)) 27 (0, 0))
  | [_] => u.heap[w.heap.size + 1]? = some (.cells #[.string (strN L), .int .i64 at_, .int .i64 0, .int .i64 bad] 44 (0, 0)) ∧ u.heap[w.heap.size + 2]? = some (.cells (u8s (zeros 32)) 27 (0, 0))
  | _ => u.heap[w.heap.size + 1]? = some (.cells #[.string (strN L), .int .i64 at_, .int .i64 0, .int .i64 bad] 44 (0, 0)) ∧ u.heap[w.heap.size + 2]? = some (.cells (u8s X) 27 (0, 0))
structure Stg (w : World) (L : List Nat) (at_ bad : Int) (SB : Nat) (X : List Nat) (h : List Value) (u : World) : Prop where
  r : u.heap[w.heap.size]? = some (.cells #[.string (strN L), .int .i64 at_, .int .i64 0, .int .i64 bad] 44 (0, 0))
  n : u.heap[SB]? = some (.cells (u8s X) 27 (0, 0))
  b : Below w.heap.size w u
  stage : stage w L at_ bad X u h
theorem row_step (L : List Nat) (p i : Nat) (hi : i < 32) (hl : p + i < L.length) : ((L.drop p).take i ++ zeros (32 - i)).set i (L.getD (p + i) 0) = (L.drop p).take (i + 1) ++ zeros (32 - (i + 1)) := by
  have h1 : ((L.drop p).take i).length = i := by rw [List.length_take, List.length_drop]; omega
  rw [List.set_append_right _ _ (by omega), h1, Nat.sub_self]
  have h2 : zeros (32 - i) = 0 :: zeros (32 - (i + 1)) := by rw [show 32 - i = (32 - (i + 1)) + 1 by omega]; rfl
  rw [h2, List.set_cons_zero, List.take_succ_eq_append_getElem (by rw [List.length_drop]; omega)]
  simp [List.getD, hl]
set_option maxHeartbeats 3200000 in
theorem sum_q (L : List Nat) (s : Rs) (v : Value) (w : World) (h8 : All8 L) (hm : L.length ≤ 281474976710656) (hat : s.at_ ≤ L.length) (hq : Qof L s v) :
    Calls Tryd.prog 29 #[v] w (RetQ w L (s.sum L) (.agg (u8s (s.sumV L)))) := by
  obtain ⟨at0, bad0, rfl, h1, h2⟩ := hq
  have hsz := strN_size L
  have HT0 : Hid (Tri w L at0 s.fe bad0 (((w.alloc (.cells #[.string (strN L), .int .i64 at0, .int .i64 s.fe, .int .i64 bad0] 44)).alloc (.cells #[.string ⟨#[]⟩, .int .i64 0, .int .i64 0, .int .i64 0] 44)).alloc (.cells (u8s (zeros 32)) 27))) :=
    hide ⟨heap_old (heap_2a _ _ _) _, heap_old (heap_2b _ _ _) _, by have := heap_last ((w.alloc (.cells #[.string (strN L), .int .i64 at0, .int .i64 s.fe, .int .i64 bad0] 44)).alloc (.cells #[.string ⟨#[]⟩, .int .i64 0, .int .i64 0, .int .i64 0] 44)) (.cells (u8s (zeros 32)) 27); simpa using this, (below2 w _ _).alloc (by simp; omega) _⟩
  by_cases hfe : s.fe = 0
  · have e0 := h1 hfe
    subst e0
    have Hps : Hid (L.length < s.at_ + 32 → s.sum L = ⟨s.at_, (L.length : Int), 30⟩ ∧ s.sumV L = zeros 32) := fun hl => by
      have e : s.has L.length 32 = ⟨s.at_, (L.length : Int), 30⟩ := by unfold Rs.has; rw [if_pos ⟨hfe, hl⟩]
      unfold Rs.sum Rs.sumV
      rw [e, if_neg (by simp), if_neg (by simp)]
      exact ⟨rfl, rfl⟩
    have Hpk : Hid (¬ L.length < s.at_ + 32 → s.sum L = ⟨s.at_ + 32, s.fa, s.fe⟩ ∧ s.sumV L = (L.drop s.at_).take 32) := fun hl => by
      have e : s.has L.length 32 = s := by unfold Rs.has; rw [if_neg (fun h => hl h.2)]
      unfold Rs.sum Rs.sumV
      rw [e, if_pos hfe, if_pos hfe]
      exact ⟨rfl, rfl⟩
    rw [hfe] at HT0 ⊢
    have HX := hide h8
    have Hfe := hide hfe
    clear h1 h2 hfe h8
    generalize s.at_ = p at *
    by_cases hl : L.length < p + 32
    · rw [(Hps.out hl).1, (Hps.out hl).2]
      have d1 : decide ((L.length : Int) - (p : Int) < 32) = true := by simp; omega
      clear Hps Hpk
      refine Calls.mono (R := fun e w' => e = .returned (.tuple #[qv L (p : Int) 30 (L.length : Int), .agg (u8s (zeros 32))]) ∧ Below w.heap.size w w') ?_ ?_
      · go_enter Tryd.func29, Tryd.ntmps29
        go_upto_if 8 with (fail)
        rw [zlit8]
        generalize (((w.alloc (.cells #[.string (strN L), .int .i64 (p : Int), .int .i64 0, .int .i64 bad0] 44)).alloc (.cells #[.string ⟨#[]⟩, .int .i64 0, .int .i64 0, .int .i64 0] 44)).alloc (.cells (u8s (zeros 32)) 27)) = w0 at *
        obtain ⟨c0, c1, c2, c3, f0, f1, f2, f3⟩ := blk4 HT0.out.r
        go_wp2_with fail
        refine (fail_c L (p : Int) 0 bad0 (L.length : Int) 30 w0).mono ?_
        rintro e w1 ⟨rfl, hb⟩
        have HT1 := hide (HT0.out.up hb)
        clear hb c0 c1 c2 c3 f0 f1 f2 f3 HT0
        obtain ⟨r0, r1, r2, r3, g0, g1, g2, g3⟩ := blk4 HT1.out.o
        have HL := hide (HT1.out.lay (p : Int) 30 (L.length : Int))
        go_wp2_with (refine wpList_store_whole rfl 27 (.tmp 3) (.tmp 23) rfl (w.heap.size + 2) (zeros 32) (zeros 32) 27 rfl (by rw [← zlit8]; rfl) ?_ rfl (by rw [infoS, zeros_length]) ?_; exact HL.out.2.1)
        intro w4 HZ4 HG4
        refine of_hid ?_
        have HO4 := hide (keepG HG4.out (by omega) HL.out.1)
        have HB4 := hide (belowG HL.out.2.2 HG4.out (by omega) HL.out.2.2.size)
        clear r0 r1 r2 r3 g0 g1 g2 g3 HL HG4 HT1
        go_wp2
        refine bodyPost_ret (v := .tuple #[qv L (p : Int) 30 (L.length : Int), .agg (u8s (zeros 32))]) ?_ rfl ⟨rfl, HB4.out⟩
        simp [results, Tryd.results29, load4 HO4.out, load_sum HZ4.out (zeros_length 32), asAddr]
      · rintro e w' ⟨rfl, hb⟩
        exact ⟨_, rfl, ⟨_, _, rfl, fun h => by simp at h, fun _ => rfl⟩, hb⟩
    · rw [(Hpk.out hl).1, (Hpk.out hl).2]
      have d1 : decide ((L.length : Int) - (p : Int) < 32) = false := by simp; omega
      clear Hps Hpk
      refine Calls.mono (R := fun e w' => e = .returned (.tuple #[qv L ((p + 32 : Nat) : Int) 0 bad0, .agg (u8s ((L.drop p).take 32))]) ∧ Below w.heap.size w w') ?_ ?_
      · clear Hfe
        go_enter Tryd.func29, Tryd.ntmps29
        go_upto_if 8 with (fail)
        rw [zlit8]
        generalize (((w.alloc (.cells #[.string (strN L), .int .i64 (p : Int), .int .i64 0, .int .i64 bad0] 44)).alloc (.cells #[.string ⟨#[]⟩, .int .i64 0, .int .i64 0, .int .i64 0] 44)).alloc (.cells (u8s (zeros 32)) 27)) = w0 at *
        obtain ⟨c0, c1, c2, c3, f0, f1, f2, f3⟩ := blk4 HT0.out.r
        have hw0 : w0.heap.size = w.heap.size + 3 ∨ True := .inr trivial
        have HN0 := hide (heap_last w0 (.cells (u8s (zeros 32)) 27))
        go_wp2_with (refine wpList_store_whole rfl 27 (.tmp 4) (.tmp 24) rfl w0.heap.size (zeros 32) (zeros 32) 27 rfl (by rw [← zlit8]; rfl) ?_ rfl (by rw [infoS, zeros_length]) ?_; rw [zlit8]; exact HN0.out)
        intro w1 HN1 HG1
        refine of_hid ?_
        rw [zlit8] at HG1
        have hz0 := heap_lt HT0.out.z
        have HT1 : Hid (Tri w L (p : Int) 0 bad0 w1) := by
          have h1 := HT0.out.up (below_new w0 (.cells (u8s (zeros 32)) 27))
          have hg := HG1.out
          exact ⟨keepG hg (by omega) h1.r, keepG hg (by omega) h1.o, keepG hg (by omega) h1.z, belowG h1.b hg (by omega) h1.b.size⟩
        generalize w0.heap.size = SB at *
        clear c0 c1 c2 c3 f0 f1 f2 f3 HT0 HN0 HG1 hw0
        go_wp2_with fail
        go_loopw [5] (fun i wr => ∃ k : Nat, i = .int .i64 (k : Int) ∧ k ≤ 32 ∧ Tri w L (p : Int) 0 bad0 wr ∧ wr.heap[SB]? = some (.cells (u8s ((L.drop p).take k ++ zeros (32 - k))) 27 (0, 0))) (fun i _ => 32 - (intOf i).toNat)
        case atStart => exact ⟨0, rfl, by omega, HT1.out, by simpa using HN1.out⟩
        case round =>
          clear HT1 HN1
          obtain ⟨k, rfl, hk, ht, hn⟩ := hrel
          have HT := hide ht
          have HN := hide hn
          clear ht hn
          obtain ⟨c0, c1, c2, c3, f0, f1, f2, f3⟩ := blk4 HT.out.r
          by_cases hk32 : k < 32
          · have hYl : ((L.drop p).take k ++ zeros (32 - k)).length = 32 := by rw [List.length_append, List.length_take, List.length_drop, zeros_length]; omega
            have d2 : decide ((k : Int) < 32) = true := by simp; omega
            have hrow := row8 HN.out (i := k) (by omega)
            have hfr : wr.frozen? ⟨SB, k, none⟩ = false := blk_free HN.out
            have hstep := row_step L p k hk32 (by omega)
            have hx := strN_at HX.out (p + k) (by rw [hsz]; omega)
            have hx8 := all8_getD HX.out (p + k)
            have HST := hide (blk_set (i := k) HN.out (.int .u8 ((L.getD (p + k) 0 : Nat) : Int)))
            rw [u8s_set, hstep] at HST
            have Hx := hide hx
            have HTs := hide (fun (x : Value) => (show Tri w L (p : Int) 0 bad0 (wr.setCell ⟨SB, k, none⟩ x) from by
              have hg := grown_setCell (World.grownBy.refl wr (some SB)) k x
              exact ⟨keepG hg (by omega) HT.out.r, keepG hg (by omega) HT.out.o, keepG hg (by omega) HT.out.z, belowG HT.out.b hg (by omega) HT.out.b.size⟩))
            generalize ((L.drop p).take k ++ zeros (32 - k)).getD k 0 = y at *
            clear hstep hx hYl
            have d3 : p + k < L.length := by omega
            go_wp2
            refine ⟨⟨k + 1, by go_num, by omega, HTs.out _, ?_⟩, by simp [intOf]; omega⟩
            rw [Hx.out]
            exact HST.out
          · have hk' : k = 32 := by omega
            subst hk'
            have d2 : decide (((32 : Nat) : Int) < 32) = false := by simp
            have hXl : ((L.drop p).take 32 ++ zeros (32 - 32)).length = 32 := by rw [List.length_append, List.length_take, List.length_drop, zeros_length]; omega
            have e0 : (L.drop p).take 32 ++ zeros (32 - 32) = (L.drop p).take 32 := by simp [zeros]
            rw [e0] at HN hXl
            obtain ⟨X, hX⟩ : ∃ X, X = (L.drop p).take 32 := ⟨_, rfl⟩
            rw [← hX] at HN hXl
            have HXe := hide hX
            have HXl := hide hXl
            clear hX
            clear e0 hXl hk hk32
            have mixed : Tryd.prog.follows Departure.mixedOrders = true := by kernel_rfl
            go_wp2_with fail
            rw [show (p : Int) + 32 = ((p + 32 : Nat) : Int) by omega]
            have HT2 := hide (HT.out.at ((p + 32 : Nat) : Int))
            have HN2 := hide (blk_set_other (k := SB) (B := w.heap.size) (i := 1) HN.out (by omega) (.int .i64 ((p + 32 : Nat) : Int)))
            generalize (wr.setCell ⟨w.heap.size, 1, none⟩ (.int .i64 ((p + 32 : Nat) : Int))) = w2 at *
            clear c0 c1 c2 c3 f0 f1 f2 f3 HT HN
            have HS0 : Hid (Stg w L ((p + 32 : Nat) : Int) bad0 SB X [] w2.drew) := hide ⟨HT2.out.r, HN2.out, HT2.out.b.drew, HT2.out.o, HT2.out.z⟩
            refine wp_region_g (Stg w L ((p + 32 : Nat) : Int) bad0 SB X) [some (some (qv L ((p + 32 : Nat) : Int) 0 bad0)), some (some (.agg (u8s X))), none, none] mixed (by kernel_rfl) [2, 3] [2, 3] rfl rfl (by kernel_rfl) HS0.out ?_
            refine gF_step (by rfl) (fun h u K hT hK => ?_) ?_
            · exact kUpon_load_mid 44 (.tmp 1) rfl w.heap.size 0 _ rfl (load4 hT.r) (hK _ hT)
            simp only [Act.put, List.setIfInBounds_toArray, List.set_cons_zero, List.set_cons_succ]
            refine gF_step (by rfl) (fun h u K hT hK => ?_) ?_
            · exact kUpon_load_mid 27 (.tmp 4) rfl SB 0 _ rfl (load_sum hT.n HXl.out) (hK _ hT)
            simp only [Act.put, List.setIfInBounds_toArray, List.set_cons_zero, List.set_cons_succ]
            refine gE_step (v := undef) (by rfl) (fun u K hT hK => ?_) ?_
            · refine kUpon_store_mid 44 (.tmp 2) (.tmp 42) rfl (w.heap.size + 1) 0 _ rfl rfl (show u.there (w.heap.size + 1) 0 4 from there_all hT.stage.1) (by kernel_rfl) (by simp [Value.oneCell']) (hK _ ?_)
              have hg := grown4 u (w.heap.size + 1) (.string (strN L)) (.int .i64 ((p + 32 : Nat) : Int)) (.int .i64 0) (.int .i64 bad0)
              exact ⟨keepG hg (by omega) hT.r, keepG hg (by omega) hT.n, belowG hT.b hg (by omega) hT.b.size, set4 hT.stage.1 _ _ _ _, keepG hg (by omega) hT.stage.2⟩
            simp only [Act.put, List.setIfInBounds_toArray, List.set_cons_zero, List.set_cons_succ]
            refine gE_step (v := undef) (by rfl) (fun u K hT hK => ?_) ?_
            · refine kUpon_store_mid 27 (.tmp 3) (.tmp 43) rfl (w.heap.size + 2) 0 (u8s X) rfl rfl (by have := there_all hT.stage.2; rwa [u8s_size, zeros_length, ← HXl.out, ← u8s_size] at this) (by rw [u8s_size, HXl.out]; exact infoS) (u8s_one X) (hK _ ?_)
              have hg := grown_setCells (B := w.heap.size + 2) (u8s X).toList 0 u
              exact ⟨keepG hg (by omega) hT.r, keepG hg (by omega) hT.n, belowG hT.b hg (by omega) hT.b.size, keepG hg (by omega) hT.stage.1, set_all8 X (zeros 32) hT.stage.2 (by rw [HXl.out, zeros_length])⟩
            simp only [Act.put, List.setIfInBounds_toArray, List.set_cons_zero, List.set_cons_succ]
            refine g_nil (fun w3 hT => ?_)
            have HO3 := hide hT.stage.1
            have HZ3 := hide hT.stage.2
            have HB3 := hide hT.b
            clear hT HS0 HT2 HN2
            go_wp2
            refine bodyPost_ret (v := .tuple #[qv L ((p + 32 : Nat) : Int) 0 bad0, .agg (u8s X)]) ?_ rfl ⟨by rw [HXe.out], HB3.out⟩
            simp [results, Tryd.results29, load4 HO3.out, load_sum HZ3.out HXl.out, asAddr]
      · rintro e w' ⟨rfl, hb⟩
        exact ⟨_, rfl, ⟨_, _, by rw [Hfe.out], fun _ => rfl, fun h => absurd Hfe.out h⟩, hb⟩
  · rw [(s.sum_stuck L hfe).1, (s.sum_stuck L hfe).2]
    have Hq : Hid (Qof L s (qv L at0 s.fe bad0)) := ⟨_, bad0, rfl, h1, h2⟩
    have hb := bne0 hfe
    generalize s.fe = fe at *
    clear h1 h2 hfe
    refine Calls.mono (R := fun e w' => e = .returned (.tuple #[qv L at0 fe bad0, .agg (u8s (zeros 32))]) ∧ Below w.heap.size w w') ?_ ?_
    · clear Hq
      go_enter Tryd.func29, Tryd.ntmps29
      go_upto_if 8 with (fail)
      rw [zlit8]
      generalize (((w.alloc (.cells #[.string (strN L), .int .i64 at0, .int .i64 fe, .int .i64 bad0] 44)).alloc (.cells #[.string ⟨#[]⟩, .int .i64 0, .int .i64 0, .int .i64 0] 44)).alloc (.cells (u8s (zeros 32)) 27)) = w0 at *
      obtain ⟨c0, c1, c2, c3, f0, f1, f2, f3⟩ := blk4 HT0.out.r
      obtain ⟨r0, r1, r2, r3, g0, g1, g2, g3⟩ := blk4 HT0.out.o
      have HL := hide (HT0.out.lay at0 fe bad0)
      go_wp2_with (refine wpList_store_whole rfl 27 (.tmp 3) (.tmp 10) rfl (w.heap.size + 2) (zeros 32) (zeros 32) 27 rfl (by rw [← zlit8]; rfl) ?_ rfl (by rw [infoS, zeros_length]) ?_; exact HL.out.2.1)
      intro w4 HZ4 HG4
      refine of_hid ?_
      have HO4 := hide (keepG HG4.out (by omega) HL.out.1)
      have HB4 := hide (belowG HL.out.2.2 HG4.out (by omega) HL.out.2.2.size)
      clear c0 c1 c2 c3 f0 f1 f2 f3 r0 r1 r2 r3 g0 g1 g2 g3 HL HG4 HT0
      go_wp2
      refine bodyPost_ret (v := .tuple #[qv L at0 fe bad0, .agg (u8s (zeros 32))]) ?_ rfl ⟨rfl, HB4.out⟩
      simp [results, Tryd.results29, load4 HO4.out, load_sum HZ4.out (zeros_length 32), asAddr]
    · rintro e w' ⟨rfl, hb⟩
      exact ⟨_, rfl, Hq.out, hb⟩
end Go.Proofs.YtjojckdoocbelaaDoor.Rd
