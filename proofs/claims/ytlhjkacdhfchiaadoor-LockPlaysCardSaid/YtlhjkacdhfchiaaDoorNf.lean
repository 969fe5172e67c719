/- LockPlays: like. -/
import Derived.Test.YtlhjkacdhfchiaaDoorNe
import Derived.Deep.CutBlock
import Derived.Deep.DeepCutAuto
namespace Go.Proofs.YtlhjkacdhfchiaaDoor.Nf
set_option linter.unusedVariables false
set_option linter.unusedSimpArgs false
set_option maxRecDepth 100000
open Go.ChangeShapes Go.WideShapes Go.ChangeAt Go.RowKit
open Go.Proofs.YtlhjkacdhfchiaaDoor.Wu Go.Proofs.YtlhjkacdhfchiaaDoor.Rk Go.Proofs.YtlhjkacdhfchiaaDoor.Pm Go.Proofs.YtlhjkacdhfchiaaDoor.Pd Go.Proofs.YtlhjkacdhfchiaaDoor.Ps Go.Proofs.YtlhjkacdhfchiaaDoor.Pu Go.Proofs.YtlhjkacdhfchiaaDoor.Pv Go.Proofs.YtlhjkacdhfchiaaDoor.Px Go.Proofs.YtlhjkacdhfchiaaDoor.La Go.Proofs.YtlhjkacdhfchiaaDoor.Lb Go.Proofs.YtlhjkacdhfchiaaDoor.Lc Go.Proofs.YtlhjkacdhfchiaaDoor.Le Go.Proofs.YtlhjkacdhfchiaaDoor.Lg Go.Proofs.YtlhjkacdhfchiaaDoor.Lh Go.Proofs.YtlhjkacdhfchiaaDoor.Li Go.Proofs.YtlhjkacdhfchiaaDoor.Lk Go.Proofs.YtlhjkacdhfchiaaDoor.Lo Go.Proofs.YtlhjkacdhfchiaaDoor.Lu Go.Proofs.YtlhjkacdhfchiaaDoor.Lx Go.Proofs.YtlhjkacdhfchiaaDoor.Na Go.Proofs.YtlhjkacdhfchiaaDoor.Nb Go.Proofs.YtlhjkacdhfchiaaDoor.Nc Go.Proofs.YtlhjkacdhfchiaaDoor.Nd Go.Proofs.YtlhjkacdhfchiaaDoor.Ne
attribute [local go_sem] kUpon_value kUpon_skip kUpon_enter
/-- The Locks and the reference's asks, alike, above all that there was. -/
structure Bo (w0 : World) (N P : Nat) (v : Value) (L : List Wh) (w : World) : Prop where
  lk : LkW w N P L
  rk : RkW w N v L
  below : Below w0.heap.size w0 w
theorem Bo.up {w0 w w' : World} {N P : Nat} {v : Value} {L : List Wh} (h : Bo w0 N P v L w) (hb : Below w.heap.size w w') : Bo w0 N P v L w' := ⟨h.lk.below hb, RkW.below h.rk hb, keepB hb (Nat.le_refl _) h.below⟩
set_option maxHeartbeats 6400000 in
theorem like_c {w0 w : World} {N P n c : Nat} {a : Option Addr} {L : List Wh} (h : Bo w0 N P (.slice a n c) L w) (ho : Once L) (hfew : L.length ≤ 64) (ask : List UInt8) :
    Calls Tryd.prog 26 #[.pointer (some ⟨P, 0, none⟩), .slice a n c, .string (bs ask)] w fun e w' => e = .returned (.bool true) ∧ Below w.heap.size w w' := by
  have hn := RkW.len h.rk
  have Hn := hide hn
  have hnn : n ≤ 64 := by omega
  have HO := hide ho
  have HLen := hide (len_c h.lk)
  rw [← hn] at HLen
  have HHas := hide (has_c h.lk (-77))
  obtain ⟨hb0, hhb⟩ : ∃ b, b = hasL L (-77) := ⟨_, rfl⟩
  have HFd : Hid (hb0 = true → decide (placeL L (-77) < 0) = false) := hide (fun e => has_find (by rw [← hhb]; exact e))
  rw [← hhb] at HHas
  have H := hide (show Bo w N P (.slice a n c) L w from ⟨h.lk, h.rk, Below.refl _ _⟩)
  have n0 : ((n : Int) != (n : Int)) = false := by simp
  clear h hn ho hfew hhb
  go_enter Tryd.func26, Tryd.ntmps26
  go_upto_region 1 with (fail)
  go_cut [29] (fun u wx => u = .bool false ∧ Bo w N P (.slice a n c) L wx)
  case first =>
    go_wp2_with fail
    refine HLen.out.mono ?_
    rintro e w1 ⟨rfl, rfl⟩
    go_wp2_with fail
    refine HHas.out.mono ?_
    rintro e w2 ⟨rfl, hb⟩
    have H2 := hide (H.out.up hb)
    clear hb H HHas HLen
    cases hb0 with
    | false =>
      go_wp2_with fail
      go_meet
      exact ⟨rfl, H2.out⟩
    | true =>
      have hfd := HFd.out rfl
      have HF2 := hide (rfind_l H2.out.rk (-77))
      go_wp2_with fail
      refine HF2.out.mono ?_
      rintro e w3 ⟨rfl, rfl⟩
      go_wp2_with fail
      go_meet
      exact ⟨rfl, H2.out⟩
  case rest =>
    obtain ⟨hu29, hB⟩ := hcut
    subst hu29
    have HB := hide hB
    clear hB H HLen HHas HFd
    go_wp2_with fail
    go_loopw [7, 8, 32] (fun hv tv j wr => ∃ k : Nat, j = .int .i64 (k : Int) ∧ k ≤ n ∧ hv = .int .i64 (Ne.seen L ask k).1 ∧ tv = .bool (Ne.seen L ask k).2 ∧ Bo w N P (.slice a n c) L wr) (fun _ _ j _ => n - (intOf j).toNat)
    case atStart => exact ⟨0, rfl, Nat.zero_le _, rfl, rfl, HB.out⟩
    case round =>
      clear HB
      obtain ⟨k, rfl, hk, rfl, rfl, hB⟩ := hrel
      have HB := hide hB
      clear hB
      by_cases hlk : k < n
      · have hex : ∃ y, L[k]? = some y := ⟨L[k]'(by rw [← Hn.out]; exact hlk), List.getElem?_eq_getElem (by rw [← Hn.out]; exact hlk)⟩
        obtain ⟨y, hy⟩ := hex
        have HSn := hide (seen_at (p := ask) hy)
        have HHs := hide (has_at HO.out hy)
        have HWt := hide (waits_at HO.out hy)
        have Hkl : Hid (k < L.length) := hide (by rw [← Hn.out]; exact hlk)
        obtain ⟨g, aa, cc, hag, c0, c1, hsrc, hl1, hl2⟩ := RkW.at HB.out.rk hy
        subst hag
        obtain ⟨who, hwho⟩ : ∃ who, who = y.1 := ⟨_, rfl⟩
        obtain ⟨T, hT⟩ : ∃ T, T = y.2 := ⟨_, rfl⟩
        obtain ⟨tm, htm⟩ : ∃ tm, tm = T.length := ⟨_, rfl⟩
        rw [← hT] at c1 hsrc hl1 HSn
        rw [← htm] at c1 hl1
        rw [← hwho] at c0 HHs HWt HSn
        obtain ⟨fb, hfb⟩ : ∃ fb, fb = freeL L k := ⟨_, rfl⟩
        rw [← hfb] at HHs HWt HSn
        have HFb := hide hfb
        obtain ⟨s, hs⟩ : ∃ s, s = Ne.seen L ask k := ⟨_, rfl⟩
        rw [← hs] at HSn ⊢
        obtain ⟨s1, s2⟩ := s
        have Htm := hide htm
        have hb5 := below_new wr (.cells #[.int .i64 who, .slice aa tm cc] 58)
        have HX5 := hide (heap_last wr (.cells #[.int .i64 who, .slice aa tm cc] 58))
        have HB5 := hide (HB.out.up hb5)
        have HS5 := hide (hsrc.below hb5)
        have d1 : decide ((k : Int) < (n : Int)) = true := by simpa using hlk
        have i1 : (0 : Int) ≤ (k : Int) := by omega
        have i2 : (k : Int) < (n : Int) := by omega
        clear hy hwho hT hfb hs htm hb5 hsrc HB
        go_wp2_with fail
        clear c0 c1
        generalize wr.alloc (.cells #[.int .i64 who, .slice aa tm cc] 58) = w5 at *
        generalize wr.heap.size = Bk at *
        have HH1 := hide (rhas_l HB5.out.rk Hkl.out)
        rw [← HFb.out] at HH1
        refine HH1.out.mono ?_
        rintro e w6 ⟨rfl, hb⟩
        have HB6 := hide (HB5.out.up hb)
        have HX6 := hide (below_blk hb (heap_lt HX5.out) HX5.out)
        have HS6 := hide (HS5.out.below hb)
        clear hb HB5 HX5 HS5 HH1
        have q0 := blk_cell (i := 0) HX6.out rfl
        have HH2 := hide (has_c HB6.out.lk who)
        rw [HHs.out] at HH2
        go_wp2_with fail
        refine HH2.out.mono ?_
        rintro e w7 ⟨rfl, hb⟩
        have HB7 := hide (HB6.out.up hb)
        have HX7 := hide (below_blk hb (heap_lt HX6.out) HX6.out)
        have HS7 := hide (HS6.out.below hb)
        clear hb HB6 HX6 HS6 HH2 q0
        have q0 := blk_cell (i := 0) HX7.out rfl
        have n1 : (fb != fb) = false := by simp
        have HH3 := hide (waits_c HB7.out.lk who)
        rw [HWt.out] at HH3
        go_wp2_with fail
        refine HH3.out.mono ?_
        rintro e w8 ⟨rfl, hb⟩
        have HB8 := hide (HB7.out.up hb)
        have HX8 := hide (below_blk hb (heap_lt HX7.out) HX7.out)
        have HS8 := hide (HS7.out.below hb)
        clear hb HB7 HX7 HS7 HH3 q0 n1
        have q0 := blk_cell (i := 0) HX8.out rfl
        have q1 := blk_cell (i := 1) HX8.out rfl
        have n2 : ((!fb) == fb) = false := by cases fb <;> rfl
        go_wp2_with fail
        obtain ⟨bb, off, hta, htc⟩ := HS8.out
        rw [← Htm.out] at hta
        have HTa := hide hta
        have HTc := hide htc
        clear hta htc n2
        go_loopw [7, 8, 57] (fun hv tv j wq => ∃ (q : Nat) (u1 : Int) (u2 : Bool), j = .int .i64 (q : Int) ∧ q ≤ tm ∧ hv = .int .i64 u1 ∧ tv = .bool u2 ∧ Hid ((u1, u2) = if fb && hasP ask (T.take q) then (who, true) else (s1, s2)) ∧ wq = w8) (fun _ _ j _ => tm - (intOf j).toNat)
        case atStart => exact ⟨0, s1, s2, rfl, Nat.zero_le _, rfl, rfl, (show (s1, s2) = if fb && hasP ask (T.take 0) then (who, true) else (s1, s2) by rw [List.take_zero]; simp [hasP]), rfl⟩
        case round =>
          obtain ⟨q, u1, u2, rfl, hq, rfl, rfl, HU, rfl⟩ := hrel
          by_cases hlq : q < tm
          · have hex : ∃ z, T[q]? = some z := ⟨T[q]'(by rw [← Htm.out]; exact hlq), List.getElem?_eq_getElem (by rw [← Htm.out]; exact hlq)⟩
            obtain ⟨z, hz⟩ := hex
            have cz := HTc.out q z hz
            have ea := HTa.out (by omega)
            subst ea
            have HTk : Hid (hasP ask (T.take (q + 1)) = (hasP ask (T.take q) || decide (z = ask))) := hide (by
              unfold hasP
              rw [List.take_add_one, hz, List.any_append]
              simp [isP])
            have heq := eq_texts z ask
            have d2 : decide ((q : Int) < (tm : Int)) = true := by simpa using hlq
            have j1 : (0 : Int) ≤ (q : Int) := by omega
            have j2 : (q : Int) < (tm : Int) := by omega
            clear hz
            cases fb with
            | false =>
              have HU2 : Hid ((u1, u2) = if false && hasP ask (T.take (q + 1)) then (who, true) else (s1, s2)) := hide (by have := HU.out; simpa using this)
              go_wp2
              go_roundw
              case rel => exact ⟨q + 1, u1, u2, by go_num, by omega, rfl, rfl, HU2, trivial⟩
              case measure => simp [intOf]; omega
            | true =>
              by_cases hza : z = ask
              · rw [decide_eq_true hza] at heq HTk
                have HU2 : Hid ((who, true) = if true && hasP ask (T.take (q + 1)) then (who, true) else (s1, s2)) := hide (by rw [HTk.out]; simp)
                clear hza
                go_wp2
                go_roundw
                case rel => exact ⟨q + 1, who, true, by go_num, by omega, rfl, rfl, HU2, trivial⟩
                case measure => simp [intOf]; omega
              · rw [decide_eq_false hza] at heq HTk
                have HU2 : Hid ((u1, u2) = if true && hasP ask (T.take (q + 1)) then (who, true) else (s1, s2)) := hide (by rw [HTk.out, Bool.or_false]; exact HU.out)
                clear hza
                go_wp2
                go_roundw
                case rel => exact ⟨q + 1, u1, u2, by go_num, by omega, rfl, rfl, HU2, trivial⟩
                case measure => simp [intOf]; omega
          · obtain rfl : q = tm := by omega
            have d2 : decide ((q : Int) < (q : Int)) = false := by simp
            have HEnd : Hid (Ne.seen L ask (k + 1) = (u1, u2)) := hide (by
              have := HU.out
              rw [List.take_of_length_le (by rw [← Htm.out]; exact Nat.le_refl _)] at this
              rw [HSn.out, this])
            go_wp2
            go_roundw
            case rel => exact ⟨k + 1, by go_num, by omega, by rw [HEnd.out], by rw [HEnd.out], HB8.out⟩
            case measure => simp [intOf]; omega
      · obtain rfl : k = n := by omega
        have d1 : decide ((k : Int) < (k : Int)) = false := by simp
        have HHd := hide (holder_c HB.out.lk ask)
        rw [← seen_all, ← Hn.out] at HHd
        obtain ⟨s, hs⟩ : ∃ s, s = Ne.seen L ask k := ⟨_, rfl⟩
        rw [← hs] at HHd ⊢
        obtain ⟨s1, s2⟩ := s
        have n1 : (s2 == s2) = true := by simp
        have n2 : (s1 == s1) = true := by simp
        clear hs
        go_wp2_with fail
        refine HHd.out.mono ?_
        rintro e w6 ⟨rfl, hb⟩
        have HB6 := hide (HB.out.up hb)
        clear hb HHd HB
        go_wp2
        go_ret
        exact ⟨rfl, HB6.out.below⟩
end Go.Proofs.YtlhjkacdhfchiaaDoor.Nf
