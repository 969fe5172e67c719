/- FrameReads' walk. -/
import Derived.Test.YtjpanlojndiomaaDoorFe
import Derived.Test.YtjpanlojndiomaaDoorFj
import Derived.Laws.StructEq
namespace Go.Proofs.YtjpanlojndiomaaDoor.FrameReadsW
set_option linter.unusedVariables false
set_option linter.unusedSimpArgs false
set_option maxRecDepth 100000
open Go.ChangeShapes Go.WideShapes Go.ChangeAt Go.RowKit
open Go.Proofs.YtjpanlojndiomaaDoor.Wu Go.Proofs.YtjpanlojndiomaaDoor.Sm Go.Proofs.YtjpanlojndiomaaDoor.Sh Go.Proofs.YtjpanlojndiomaaDoor.Ba Go.Proofs.YtjpanlojndiomaaDoor.Bp Go.Proofs.YtjpanlojndiomaaDoor.Bs Go.Proofs.YtjpanlojndiomaaDoor.Cr Go.Proofs.YtjpanlojndiomaaDoor.Er Go.Proofs.YtjpanlojndiomaaDoor.Eu Go.Proofs.YtjpanlojndiomaaDoor.Rk Go.Proofs.YtjpanlojndiomaaDoor.Rx Go.Proofs.YtjpanlojndiomaaDoor.Fp Go.Proofs.YtjpanlojndiomaaDoor.Fh Go.Proofs.YtjpanlojndiomaaDoor.Fi Go.Proofs.YtjpanlojndiomaaDoor.Fj
attribute [local go_sem] kUpon_value kUpon_skip kUpon_enter
def Post (w : World) (e : Ending) (w' : World) : Prop := e = .returned (.bool true) ∧ Below w.heap.size w w'
/-- What is known while the two answers are compared. -/
structure S (w : World) (F W : Nat) (k s : Int) (a : Option Addr) (l c : Nat) (D : List Nat) (v : Value) (code place : Int) (u : World) : Prop where
  f : u.heap[F]? = some (.cells #[.int .i64 k, .int .i64 s, .slice a l c] 25 (0, 0))
  g : u.heap[W]? = some (.cells #[.int .i64 k, .int .i64 s, .string (strN D)] 31 (0, 0))
  d : SrcB u a l D
  e : IsErr u v code place
  b : Below w.heap.size w u
theorem S.up {w u u' : World} {F W : Nat} {k s : Int} {a : Option Addr} {l c : Nat} {D : List Nat} {v : Value} {code place : Int} (h : S w F W k s a l c D v code place u) (hb : Below u.heap.size u u') : S w F W k s a l c D v code place u' :=
  ⟨below_blk hb (heap_lt h.f) h.f, below_blk hb (heap_lt h.g) h.g, h.d.below hb, h.e.below hb, keepB hb (Nat.le_refl _) h.b⟩
theorem eq_frame (k s : Int) (D : List Nat) (u : World) : Sem.run Tryd.prog (Op.equalIn 10000 31 (.agg #[.int .i64 k, .int .i64 s, .string (strN D)]) (.agg #[.int .i64 k, .int .i64 s, .string (strN D)])) u = .ok true u := by
  generalize strN D = X
  go_simp
set_option maxHeartbeats 1600000 in
theorem walk (a : Option Addr) (m c : Nat) (L : List Nat) (w : World) (he : Et w) (hs : SrcB w a m L) (hmc : m ≤ c) (hm : m ≤ 140737488355328) :
    Calls Tryd.prog 3 #[.slice a m c] w (Post w) := by
  have HC := hide (Fe.reads_c w)
  have HE := hide he
  have HS := hide hs
  have hLm := hs.1
  have H8 := hide hs.2.1
  clear hs he
  go_enter Tryd.func3, Tryd.ntmps3
  go_wp2_with fail
  refine HC.out.mono ?_
  rintro e w1 ⟨rfl, hb⟩
  have HB1 := hide hb
  clear hb HC
  go_wp2_with fail
  refine (read_any a m c L w1 (HS.out.below HB1.out) hmc (by omega)).mono ?_
  rintro e w2 ⟨hb2, hR⟩
  have HB2 := hide (keepB hb2 (Nat.le_refl _) HB1.out)
  have HRef := hide (fun u => refRead_c L u H8.out (by omega))
  -- both answers in one form
  obtain ⟨k, s, fa, fl, fc, D, n, v, code, place, pl, rfl, hV, hsrc, hierr, hcp, hpl⟩ : ∃ (k s : Int) (fa : Option Addr) (fl fc : Nat) (D : List Nat) (n : Int) (v : Value) (code place pl : Int), e = .returned (.tuple #[.agg #[.int .i64 k, .int .i64 s, .slice fa fl fc], .int .i64 n, v]) ∧ refV L (readR L) = .tuple #[.agg #[.int .i64 k, .int .i64 s, .string (strN D)], .int .i64 n, .int .i64 code, .int .i64 pl] ∧ SrcB w2 fa fl D ∧ IsErr w2 v code place ∧ (code = 0 → place = -1) ∧ (code ≠ 0 → pl = place) := by
    cases hr : readR L with
    | bad code place =>
      rw [hr] at hR
      obtain ⟨v, rfl, hf⟩ := hR
      by_cases hc : code = 0
      · exfalso
        unfold readR at hr
        cases hh : headR L with
        | bad code' place' =>
          rw [hh] at hr
          simp only [HR.bad.injEq] at hr
          obtain ⟨rfl, rfl⟩ := hr
          unfold headR at hh
          split at hh
          · simp only [HR.bad.injEq] at hh; omega
          · split at hh
            · rename_i h2
              simp only [HR.bad.injEq] at hh
              exact h2 (by omega)
            · split at hh
              · simp only [HR.bad.injEq] at hh; omega
              · cases hh
        | ok k s h n =>
          rw [hh] at hr
          simp only at hr
          split at hr
          · simp only [HR.bad.injEq] at hr; omega
          · cases hr
      · exact ⟨0, 0, none, 0, 0, [], 0, v, code, place, place, rfl, rfl, SrcB.nil _ _, hf.isErr, fun h => absurd h hc, fun _ => rfl⟩
    | ok k s h n =>
      rw [hr] at hR
      obtain ⟨g, cap, rfl, hg, hd⟩ := hR
      exact ⟨(k : Int), (s : Int), some ⟨g, 0, none⟩, n, cap, (L.drop h).take n, ((h + n : Nat) : Int), .nilIface, 0, -1, 0, rfl, rfl, hd.src, .inl ⟨rfl, rfl, rfl⟩, fun _ => rfl, fun h => absurd rfl h⟩
  rw [hV] at HRef
  clear hR hV
  have HSr := hide hsrc
  have HIe := hide hierr
  have Hcp := hide hcp
  have Hpl := hide hpl
  clear hb2 HB1 hsrc hierr hcp hpl
  have HF3 := hide (heap_last w2 (.cells #[.int .i64 k, .int .i64 s, .slice fa fl fc] 25))
  have hb3 := below_new w2 (.cells #[.int .i64 k, .int .i64 s, .slice fa fl fc] 25)
  have HB3 := hide (keepB hb3 (Nat.le_refl _) HB2.out)
  have HSr3 := hide (HSr.out.below hb3)
  have HIe3 := hide (HIe.out.below hb3)
  have hcv := conv_src (cap := c) (HS.out.below HB3.out)
  go_wp2_with fail
  generalize w2.alloc (.cells #[.int .i64 k, .int .i64 s, .slice fa fl fc] 25) = w3 at *
  generalize w2.heap.size = F at *
  clear hb3 hcv HB2 HSr HIe
  refine (HRef.out w3).mono ?_
  rintro e w4 ⟨rfl, hb4⟩
  have HF4 := hide (below_blk hb4 (heap_lt HF3.out) HF3.out)
  have HB4 := hide (keepB hb4 (Nat.le_refl _) HB3.out)
  have HSr4 := hide (HSr3.out.below hb4)
  have HIe4 := hide (HIe3.out.below hb4)
  clear hb4 HF3 HB3 HSr3 HIe3 HRef
  have hb5 := below_new w4 (.cells #[.int .i64 k, .int .i64 s, .string (strN D)] 31)
  have HS0 : Hid (S w F w4.heap.size k s fa fl fc D v code place (w4.alloc (.cells #[.int .i64 k, .int .i64 s, .string (strN D)] 31)).drew) :=
    hide (S.up ⟨heap_old HF4.out _, heap_last _ _, HSr4.out.below hb5, HIe4.out.below hb5, keepB hb5 (Nat.le_refl _) HB4.out⟩ (Below.refl _ _).drew)
  go_wp2_with fail
  generalize w4.alloc (.cells #[.int .i64 k, .int .i64 s, .string (strN D)] 31) = w5 at *
  generalize w4.heap.size = W at *
  clear hb5 HF4 HB4 HSr4 HIe4
  have mixed : Tryd.prog.follows Departure.mixedOrders = true := by kernel_rfl
  have HPl := hide (fun u (hu : S w F W k s fa fl fc D v code place u) => plain_c k s fa fl fc D u hu.d)
  have HNum := hide (fun u (hu : S w F W k s fa fl fc D v code place u) => Eu.number_c v code place u hu.e (HE.out.below hu.b (Nat.le_refl _)))
  refine wp_region_keep (S w F W k s fa fl fc D v code place) mixed (by kernel_rfl) HS0.out ?_
  repeat (first
    | (refine keep_not (by rfl) ?_
       simp only [Act.put, List.setIfInBounds_toArray, List.set_cons_zero, List.set_cons_succ])
    | (refine keep_step (v := ?_) (by rfl) (fun u K hS hK => ?_) ?_
       rotate_left
       · obtain ⟨c0, c1, c2, f0, f1, f2⟩ := blk3 hS.f
         obtain ⟨d0, d1, d2, e0, e1, e2⟩ := blk3 hS.g
         (go_simp; first
           | exact hK _ hS
           | (go_at_call 16; refine (HPl.out u hS).mono ?_; rintro e u2 ⟨rfl, hb⟩; exact hK _ (hS.up hb))
           | (go_at_call 17; refine (HNum.out u hS).mono ?_; rintro e u2 ⟨rfl, hb⟩; exact hK _ (hS.up hb)))
       simp only [Act.put, List.setIfInBounds_toArray, List.set_cons_zero, List.set_cons_succ]))
  refine keep_nil (fun w6 hS6 => ?_)
  have HS6 := hide hS6
  clear hS6 HS0 HPl HNum
  by_cases hc : code = 0
  · have hp := Hcp.out hc
    subst hc
    subst hp
    go_wp2_with fail
    refine (Eu.place_c v 0 (-1) w6 HS6.out.e (HE.out.below HS6.out.b (Nat.le_refl _))).mono ?_
    rintro e w7 ⟨rfl, hb7⟩
    have HB7 := hide (keepB hb7 (Nat.le_refl _) HS6.out.b)
    clear hb7
    go_wp2
    go_ret
    exact ⟨rfl, HB7.out⟩
  · have hp := Hpl.out hc
    subst hp
    have e1 : (code == 0) = false := by simp [hc]
    have e2 : (code != 0) = true := by rw [bne_iff_ne]; exact hc
    clear hc
    go_wp2_with fail
    refine (Eu.place_c v code pl w6 HS6.out.e (HE.out.below HS6.out.b (Nat.le_refl _))).mono ?_
    rintro e w7 ⟨rfl, hb7⟩
    have HB7 := hide (keepB hb7 (Nat.le_refl _) HS6.out.b)
    clear hb7
    go_wp2
    go_ret
    exact ⟨rfl, HB7.out⟩
end Go.Proofs.YtjpanlojndiomaaDoor.FrameReadsW
