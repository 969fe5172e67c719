/- The reference's Check of paths. -/
import Derived.Test.YtlhjkacdhfchiaaDoorPd
namespace Go.Proofs.YtlhjkacdhfchiaaDoor.Pe
set_option linter.unusedVariables false
set_option linter.unusedSimpArgs false
set_option maxRecDepth 100000
open Go.ChangeShapes Go.WideShapes Go.RowKit
open Go.Proofs.YtlhjkacdhfchiaaDoor.Wu Go.Proofs.YtlhjkacdhfchiaaDoor.Pm Go.Proofs.YtlhjkacdhfchiaaDoor.Pc Go.Proofs.YtlhjkacdhfchiaaDoor.Pl Go.Proofs.YtlhjkacdhfchiaaDoor.Pd
theorem bs_at {l : List UInt8} {k : Nat} (h : k < (bs l).size) : l[k]? = some ((bs l)[k]'h) := by
  have := at_ba h
  rwa [bs_data] at this
theorem bs_extract (l : List UInt8) (a b : Nat) : (bs l).extract a b = bs ((l.drop a).take (b - a)) := by
  have h : ((bs l).extract a b).data.toList = (l.drop a).take (b - a) := by
    rw [Lib.extract_data, bs_data]
  rw [← bs_of ((bs l).extract a b), h]
set_option maxHeartbeats 1600000 in
theorem segment_c (l : List UInt8) (at_ : Nat) (w : World) (hl : l.length ≤ 1000000) (hat : at_ ≤ l.length) :
    Calls Tryd.prog 103 #[.string (bs l), .int .i64 (at_ : Int)] w fun e w' => e = .returned (.string (bs ((l.drop at_).take (fs (l.drop at_))))) ∧ w' = w := by
  have hsz := bs_size l
  go_enter Tryd.func103, Tryd.ntmps103
  go_wp2_with fail
  go_loop [5] (fun vi => ∃ i : Nat, vi = .int .i64 (i : Int) ∧ at_ ≤ i ∧ i ≤ l.length ∧ Hid (∀ j, at_ ≤ j → j < i → l[j]? ≠ some 47)) (fun vi => l.length - (intOf vi).toNat)
  case atStart => exact ⟨at_, rfl, Nat.le_refl _, hat, hide (fun j h1 h2 => absurd h1 (by omega))⟩
  case round =>
    obtain ⟨i, rfl, hi, hil, HK⟩ := hrel
    have HE := hide (bs_extract l at_ i)
    by_cases hlt : i < l.length
    · have hb : i < (bs l).size := by omega
      have hx := bs_at hb
      by_cases h47 : (bs l)[i]'hb = 47
      · have HF : Hid (fs (l.drop at_) = i - at_) := hide (fs_is (fun j hj => by rw [List.getElem?_drop]; exact HK.out (at_ + j) (by omega) (by omega)) (by rw [List.length_drop]; omega) (.inr (by rw [List.getElem?_drop, show at_ + (i - at_) = i by omega, hx, h47])))
        have hd : ((((bs l)[i]'hb).toNat : Int) != 47) = false := by rw [h47]; rfl
        clear hx
        go_wp2
        all_goals
          go_ret
          rw [HE.out, ← HF.out]
          exact ⟨rfl, rfl⟩
      · have hd : ((((bs l)[i]'hb).toNat : Int) != 47) = true := by
          rw [bne_iff_ne]
          intro e
          exact h47 (UInt8.toNat_inj.1 (by show _ = 47; omega))
        have HK2 : Hid (∀ j, at_ ≤ j → j < i + 1 → l[j]? ≠ some 47) := hide (fun j h1 h2 => by
          by_cases hji : j < i
          · exact HK.out j h1 hji
          · have : j = i := by omega
            subst this
            rw [hx]
            intro e
            injection e with e
            exact h47 e)
        clear hx h47
        go_wp2
        go_round
        case rel => exact ⟨i + 1, by go_num, by omega, by omega, HK2⟩
        case measure => simp [intOf]; omega
    · have hie : i = l.length := by omega
      have HF : Hid (fs (l.drop at_) = i - at_) := hide (fs_is (fun j hj => by rw [List.getElem?_drop]; exact HK.out (at_ + j) (by omega) (by omega)) (by rw [List.length_drop]; omega) (.inl (by rw [List.length_drop]; omega)))
      rw [hie] at HE HF
      go_wp2
      all_goals
        go_ret
        rw [HE.out, ← HF.out]
        exact ⟨rfl, rfl⟩
/-- The reference's answer. -/
def refV : Option Nat → Value
  | none => .tuple #[.int .i64 0, .int .i64 0]
  | some p => .tuple #[.int .i64 1, .int .i64 (p : Int)]
theorem sign_bs (c : UInt8) (n : Int) (hn : n = (c.toNat : Int)) (w : World) : Calls Tryd.prog 104 #[.int .u8 n] w fun e w' => e = .returned (.bool (okB c)) ∧ w' = w := by
  rw [hn]; exact sign_c c w
set_option maxHeartbeats 3200000 in
theorem refCheck_c (l : List UInt8) (w : World) (hl : l.length ≤ 9223372036854775807) : Calls Tryd.prog 72 #[.string (bs l)] w fun e w' => e = .returned (refV (check l)) ∧ w' = w := by
  have hsz := bs_size l
  have htl := bs_toList l
  by_cases h0 : l = []
  · have HP : Hid (check l = some 0) := hide (by unfold check; rw [if_pos h0])
    have e0 : ((bs l).toList == []) = true := by rw [htl, h0]; rfl
    rw [HP.out]
    clear htl
    generalize bs l = B at *
    go_enter Tryd.func72, Tryd.ntmps72
    go_wp2
    go_ret2
    exact ⟨rfl, rfl⟩
  have e0 : ((bs l).toList == []) = false := by rw [htl]; cases l with | nil => exact absurd rfl h0 | cons => rfl
  by_cases h1 : 64 < l.length
  · have HP : Hid (check l = some 64) := hide (by unfold check; rw [if_neg h0, if_pos h1])
    rw [HP.out]
    clear htl
    generalize bs l = B at *
    go_enter Tryd.func72, Tryd.ntmps72
    go_wp2
    go_ret2
    exact ⟨rfl, rfl⟩
  have HP : Hid (check l = if 0 ≤ l.length then chk 0 0 (segs (l.drop 0)) else none) := hide (by unfold check; rw [if_neg h0, if_neg h1]; simp)
  have HSg := hide (fun at_ h => segment_c l at_ w (by omega) h)
  clear htl
  generalize bs l = B at *
  go_enter Tryd.func72, Tryd.ntmps72
  go_wp2_with fail
  clear e0
  go_loop [4, 5] (fun va vn => ∃ at_ n : Nat, va = .int .i64 (at_ : Int) ∧ vn = .int .i64 (n : Int) ∧ at_ ≤ l.length + 1 ∧ n ≤ 6 ∧ Hid (check l = if at_ ≤ l.length then chk at_ n (segs (l.drop at_)) else none)) (fun va _ => l.length + 1 - (intOf va).toNat)
  case atStart => exact ⟨0, 0, rfl, rfl, by omega, by omega, HP⟩
  case round =>
    obtain ⟨at_, n, rfl, rfl, hat, hn6, HK⟩ := hrel
    by_cases hle : at_ ≤ l.length
    · have hk := HK.out
      rw [if_pos hle, chk_at] at hk
      obtain ⟨M, hM⟩ : ∃ M, M = l.drop at_ := ⟨_, rfl⟩
      have hMl : M.length = l.length - at_ := by rw [hM, List.length_drop]
      have hfl := fs_le M
      have HC := hide (HSg.out at_ hle)
      rw [← hM] at hk HC
      obtain ⟨g, hg⟩ : ∃ g, g = M.take (fs M) := ⟨_, rfl⟩
      have hgl : g.length = fs M := by rw [hg, List.length_take]; omega
      rw [← hg] at hk HC
      have hdr : M.drop (fs M + 1) = l.drop (at_ + g.length + 1) := by rw [hM, List.drop_drop, hgl, hM]; congr 1
      rw [hdr, ← hgl] at hk
      have HKk := hide hk
      have hgb : at_ + g.length ≤ l.length := by omega
      clear hk hdr hM hfl HK
      generalize fs M = f at *
      clear hg hgl
      have hgs := bs_size g
      by_cases h6 : n = 6
      · have HR : Hid (check l = some at_) := hide (by rw [HKk.out, if_pos h6])
        subst h6
        clear HKk
        go_wp2_with fail
        refine HC.out.mono ?_
        rintro e w' ⟨rfl, rfl⟩
        go_wp2
        go_ret2
        refine ⟨?_, rfl⟩
        rw [HR.out]
        rfl
      have hk2 := HKk.out
      rw [if_neg h6] at hk2
      clear HKk
      have hn5 : n < 6 := by omega
      by_cases a0 : g = []
      · have HR : Hid (check l = some at_) := hide (by rw [hk2, show flawP g = some 0 by unfold flawP; rw [if_pos (.inl a0)]]; rfl)
        have e0 : ((bs g).toList == []) = true := by rw [bs_toList, a0]; rfl
        clear hk2 a0
        go_wp2_with fail
        refine HC.out.mono ?_
        rintro e w' ⟨rfl, rfl⟩
        go_wp2
        go_ret2
        refine ⟨?_, rfl⟩
        rw [HR.out]
        rfl
      have e0 : ((bs g).toList == []) = false := by rw [bs_toList]; exact beq_eq_false_iff_ne.2 a0
      by_cases a1 : g = [46]
      · have HR : Hid (check l = some at_) := hide (by rw [hk2, show flawP g = some 0 by unfold flawP; rw [if_pos (.inr (.inl a1))]]; rfl)
        have e1 : ((bs g).toList == [46]) = true := by rw [bs_toList, a1]; rfl
        clear hk2 a1 a0
        go_wp2_with fail
        refine HC.out.mono ?_
        rintro e w' ⟨rfl, rfl⟩
        go_wp2
        go_ret2
        refine ⟨?_, rfl⟩
        rw [HR.out]
        rfl
      have e1 : ((bs g).toList == [46]) = false := by rw [bs_toList]; exact beq_eq_false_iff_ne.2 a1
      by_cases a2 : g = [46, 46]
      · have HR : Hid (check l = some at_) := hide (by rw [hk2, show flawP g = some 0 by unfold flawP; rw [if_pos (.inr (.inr (.inl a2)))]]; rfl)
        have e2 : ((bs g).toList == [46, 46]) = true := by rw [bs_toList, a2]; rfl
        clear hk2 a2 a1 a0
        go_wp2_with fail
        refine HC.out.mono ?_
        rintro e w' ⟨rfl, rfl⟩
        go_wp2
        go_ret2
        refine ⟨?_, rfl⟩
        rw [HR.out]
        rfl
      have e2 : ((bs g).toList == [46, 46]) = false := by rw [bs_toList]; exact beq_eq_false_iff_ne.2 a2
      by_cases a3 : 16 < g.length
      · have HR : Hid (check l = some at_) := hide (by rw [hk2, show flawP g = some 0 by unfold flawP; rw [if_pos (.inr (.inr (.inr a3)))]]; rfl)
        clear hk2 a2 a1 a0
        go_wp2_with fail
        refine HC.out.mono ?_
        rintro e w' ⟨rfl, rfl⟩
        go_wp2
        go_ret2
        refine ⟨?_, rfl⟩
        rw [HR.out]
        rfl
      have hfb : flawP g = badAt g := by unfold flawP; rw [if_neg (by simp only [a0, a1, a2, false_or]; omega)]
      rw [hfb] at hk2
      have HK2 := hide hk2
      clear hk2 hfb a0 a1 a2
      go_wp2_with fail
      refine HC.out.mono ?_
      rintro e w' ⟨rfl, rfl⟩
      have e3 : decide ((16 : Int) < (g.length : Int)) = false := by simp; omega
      have e4 : ((n : Int) == 6) = false := by simp; omega
      go_wp2_with fail
      clear e0 e1 e2 e3 e4
      go_loop [7] (fun i => ∃ k : Nat, i = .int .i64 (k : Int) ∧ k ≤ g.length ∧ Hid (∀ j, j < k → ∀ c, g[j]? = some c → okB c = true)) (fun i => g.length - (intOf i).toNat)
      case atStart => exact ⟨0, rfl, Nat.zero_le _, hide (fun j hj => absurd hj (by omega))⟩
      case round =>
        obtain ⟨k, rfl, hk, HJ⟩ := hrel
        by_cases hlt : k < g.length
        · have hb : k < (bs g).size := by omega
          have hx := bs_at hb
          cases ho : okB ((bs g)[k]'hb) with
          | true =>
            go_wp2_with (go_at_call 104; refine (sign_c _ _).mono ?_; rintro e w' ⟨rfl, rfl⟩)
            go_round
            case rel => exact ⟨k + 1, by go_num, by omega, hide (fun j hj c hc => by
              by_cases hjk : j < k
              · exact HJ.out j hjk c hc
              · have : j = k := by omega
                subst this
                rw [hx] at hc
                injection hc with hc
                rw [← hc]; exact ho)⟩
            case measure => simp [intOf]; omega
          | false =>
            have HR : Hid (check l = some (at_ + k)) := hide (by rw [HK2.out, badAt_is HJ.out ⟨_, hx, ho⟩])
            go_wp2_with (go_at_call 104; refine (sign_c _ _).mono ?_; rintro e w' ⟨rfl, rfl⟩)
            go_ret2
            refine ⟨?_, rfl⟩
            rw [HR.out]
            simp [refV]
        · have hkl : k = g.length := by omega
          have HR : Hid (check l = if at_ + g.length + 1 ≤ l.length then chk (at_ + g.length + 1) (n + 1) (segs (l.drop (at_ + g.length + 1))) else none) := hide (by
            rw [HK2.out, badAt_none (fun j hj c hc => HJ.out j (by omega) c hc)]
            show (if g.length < M.length then _ else _) = _
            by_cases hc : g.length < M.length
            · rw [if_pos hc, if_pos (by omega)]
            · rw [if_neg hc, if_neg (by omega)])
          go_wp2
          go_round
          case rel => exact ⟨at_ + g.length + 1, n + 1, by go_num, by go_num, by omega, by omega, HR⟩
          case measure => simp [intOf]; omega
    · have HN : Hid (check l = none) := hide (by rw [HK.out, if_neg hle])
      go_wp2
      go_ret2
      refine ⟨?_, rfl⟩
      rw [HN.out]
      rfl
end Go.Proofs.YtlhjkacdhfchiaaDoor.Pe
