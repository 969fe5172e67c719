/- Reference 12: Put. -/
import Derived.Test.YtlhjkacdhfchiaaDoorNb
import Derived.Test.YtlhjkacdhfchiaaDoorLv
namespace Go.Proofs.YtlhjkacdhfchiaaDoor.Nc
set_option linter.unusedVariables false
set_option linter.unusedSimpArgs false
set_option maxRecDepth 100000
open Go.ChangeShapes Go.WideShapes Go.ChangeAt Go.RowKit
open Go.Proofs.YtlhjkacdhfchiaaDoor.Wu Go.Proofs.YtlhjkacdhfchiaaDoor.Rk Go.Proofs.YtlhjkacdhfchiaaDoor.Pm Go.Proofs.YtlhjkacdhfchiaaDoor.Ps Go.Proofs.YtlhjkacdhfchiaaDoor.Pu Go.Proofs.YtlhjkacdhfchiaaDoor.Pv Go.Proofs.YtlhjkacdhfchiaaDoor.Px Go.Proofs.YtlhjkacdhfchiaaDoor.Pra Go.Proofs.YtlhjkacdhfchiaaDoor.La Go.Proofs.YtlhjkacdhfchiaaDoor.Lb Go.Proofs.YtlhjkacdhfchiaaDoor.Lc Go.Proofs.YtlhjkacdhfchiaaDoor.Ld Go.Proofs.YtlhjkacdhfchiaaDoor.Le Go.Proofs.YtlhjkacdhfchiaaDoor.Lf Go.Proofs.YtlhjkacdhfchiaaDoor.Lg Go.Proofs.YtlhjkacdhfchiaaDoor.Li Go.Proofs.YtlhjkacdhfchiaaDoor.Lu Go.Proofs.YtlhjkacdhfchiaaDoor.Lv Go.Proofs.YtlhjkacdhfchiaaDoor.Na Go.Proofs.YtlhjkacdhfchiaaDoor.Nb
open Go.Proofs.YtlhjkacdhfchiaaDoor.Ba (of_hid)
attribute [local go_sem] kUpon_value kUpon_skip kUpon_enter
theorem setF_flag : ∀ {R S : List (List UInt8)} {i k : Nat} {c : Int}, setF S i R = .inr (k, c, true) → c = 90
  | [], S, i, k, c, h => by simp [setF] at h
  | p :: R, S, i, k, c, h => by
    rw [setF] at h
    split at h
    · split at h
      · exact setF_flag h
      · simp at h
    · simp at h; exact h.2.symm
theorem setF_code : ∀ {R S : List (List UInt8)} {i k : Nat} {c : Int}, setF S i R = .inr (k, c, false) → c ≠ 0
  | [], S, i, k, c, h => by simp [setF] at h
  | p :: R, S, i, k, c, h => by
    rw [setF] at h
    split at h
    · split at h
      · exact setF_code h
      · rename_i hz
        simp at h
        rw [← h.2]
        exact hz
    · simp at h
/-- What Put answers. -/
def RPutR (w : World) (N : Nat) (v : Value) (r : (List Wh × Bool) ⊕ Int) (e : Ending) (w' : World) : Prop := (match r with
  | .inl (L', _) => ∃ v', e = .returned (.tuple #[v', .int .i64 0]) ∧ RkW w' N v' L'
  | .inr c => e = .returned (.tuple #[v, .int .i64 c]) ∧ c ≠ 0) ∧ Below w.heap.size w w'
theorem wpList_appR {w : World} {ops : Array Oper} {rest : List Oper} {o : Oper} {a : Act} {Q : Exit → Act → World → Prop} (hgd : o.guard = none) (s x : Operand)
    (ho : o.op = .call { callee := .builtin .append, args := #[s, x], argTypes := #[51, 51] }) (v xv : Value) (N : Nat) (zs : List La.Ask)
    (hs : a.eval s = v) (hx : a.eval x = xv) (h : ∃ v' w', (Builtin.append_ #[51, 51] o.type #[v, xv]).run Tryd.prog w = .ok v' w' ∧ OwnR w' N v' zs ∧ w.grownBy w' v.ownBlock)
    (hK : ∀ v' w', Hid (OwnR w' N v' zs) → Hid (w.grownBy w' v.ownBlock) → Hid (wpList Tryd.prog ops Q rest (a.put o.dst v') w')) : wpList Tryd.prog ops Q (o :: rest) a w := by
  obtain ⟨v', w', hr, h1, h2⟩ := h
  refine wpList_plain hgd fun K hK' => ?_
  unfold Oper.wp
  rw [← hs, ← hx] at hr
  simp [execOp, ho, resolve, invoke, builtin, hr, Result.andThen]
  exact hK' _ _ (hK v' w' h1 h2)
/-- What is grown lies above. -/
theorem grown_below {w w' : World} {B : Nat} {r : Option Nat} (hg : w.grownBy w' r) (hB : B ≤ w.heap.size) (hr : ∀ g, r = some g → B ≤ g) : Below B w w' :=
  ⟨hg.os, hg.tape, hg.output, hg.size, fun k hk => hg.block k (by omega) (fun e => absurd (hr k e.symm) (by omega))⟩
set_option maxHeartbeats 3200000 in
theorem rput_c {w : World} {N : Nat} {v : Value} {L : List Wh} (h : RkW w N v L) (hN : N ≤ w.heap.size) (who : Int) (a : Option Addr) (cap : Nat) (l : List (List UInt8)) (hs : SrcS w a l) (hc : l.length ≤ cap) (hm : cap ≤ 9223372036854775807) (hp : ∀ p ∈ l, p.length ≤ 200) :
    Calls Tryd.prog 21 #[v, .agg #[.int .i64 who, .slice a l.length cap]] w (RPutR w N v (askF L who l)) := by
  have hb0 := below_new w (.cells #[.int .i64 who, .slice a l.length cap] 58)
  have hx0 := heap_last w (.cells #[.int .i64 who, .slice a l.length cap] 58)
  have HF := hide (fun (u : World) (hu : Below w.heap.size w u) => rfind_l (w := u) (N := N) (v := v) (L := L) (by obtain ⟨us, h⟩ := h; exact ⟨us, h.below hu⟩) who)
  obtain ⟨us, hA⟩ := h
  obtain ⟨av, cv, rfl, hI, hnone, hsome⟩ := hA.own.is
  have HA := hide hA
  have HNone := hide hnone
  have husl := hA.len
  have hub0 : us.length ≤ 64 := by rw [husl]; exact hA.few
  have Husl := hide husl
  have hI3 := hI.2.1
  have hI4 := hI.2.2.1
  obtain ⟨m, hml⟩ : ∃ m, m = l.length := ⟨_, rfl⟩
  have HS := hide hs
  have HP := hide hp
  have HB0 := hide hb0
  have q0 := blk_cell (i := 0) hx0 rfl
  have q1 := blk_cell (i := 1) hx0 rfl
  rw [← hml] at q0 q1 HB0 ⊢
  clear hA hI hnone hsome hs hp hb0 hx0 husl
  cases hf : L.findIdx? (whoIs who) with
  | some i =>
    obtain ⟨e1, e2⟩ := placeL_some hf
    rw [e1] at HF
    have HR : Hid (∀ w', Below w.heap.size w w' → RPutR w N (.slice av us.length cv) (askF L who l) (.returned (.tuple #[.slice av us.length cv, .int .i64 5])) w') := hide (fun w' hb => by
      have e : askF L who l = .inr 5 := by unfold askF; rw [hf]; rfl
      rw [e]; exact ⟨⟨rfl, by decide⟩, hb⟩)
    generalize RPutR w N (.slice av us.length cv) (askF L who l) = R at *
    have d0 : (0 : Int) ≤ (i : Int) := by omega
    have d1 : decide ((0 : Int) ≤ (i : Int)) = true := decide_eq_true d0
    clear hf e1 e2 hml
    go_enter Tryd.func21, Tryd.ntmps21
    go_wp2_with fail
    refine (HF.out _ HB0.out).mono ?_
    rintro e w1 ⟨rfl, rfl⟩
    have HZ := hide (HR.out _ HB0.out)
    go_wp2
    exact HZ.out
  | none =>
    rw [placeL_none hf] at HF
    have hf2 : (L.findIdx? (whoIs who)).isSome = false := by rw [hf]; rfl
    have HML := hide hml
    by_cases h64 : L.length = 64
    · have HR : Hid (∀ w', Below w.heap.size w w' → RPutR w N (.slice av us.length cv) (askF L who l) (.returned (.tuple #[.slice av us.length cv, .int .i64 3])) w') := hide (fun w' hb => by
        have e : askF L who l = .inr 3 := by unfold askF; rw [hf2]; simp [h64]
        rw [e]; exact ⟨⟨rfl, by decide⟩, hb⟩)
      generalize RPutR w N (.slice av us.length cv) (askF L who l) = R at *
      have d64 : decide ((64 : Int) ≤ (us.length : Int)) = true := decide_eq_true (by have := Husl.out; omega)
      have d64' : decide (64 ≤ us.length) = true := decide_eq_true (by have := Husl.out; omega)
      clear hf hf2 hml
      go_enter Tryd.func21, Tryd.ntmps21
      go_wp2_with fail
      refine (HF.out _ HB0.out).mono ?_
      rintro e w1 ⟨rfl, rfl⟩
      have HZ := hide (HR.out _ HB0.out)
      go_wp2
      exact HZ.out
    · have d64 : decide ((64 : Int) ≤ (us.length : Int)) = false := decide_eq_false (by have := Husl.out; omega)
      have d64' : decide (64 ≤ us.length) = false := decide_eq_false (by have := Husl.out; omega)
      by_cases h16 : 16 < m
      · have HR : Hid (∀ w', Below w.heap.size w w' → RPutR w N (.slice av us.length cv) (askF L who l) (.returned (.tuple #[.slice av us.length cv, .int .i64 2])) w') := hide (fun w' hb => by
          have e : askF L who l = .inr 2 := by unfold askF; rw [hf2, if_neg (by simp), if_neg h64, if_pos (by omega)]
          rw [e]; exact ⟨⟨rfl, by decide⟩, hb⟩)
        generalize RPutR w N (.slice av us.length cv) (askF L who l) = R at *
        have d16 : decide ((16 : Int) < (m : Int)) = true := by simp; omega
        have d16' : decide (16 < m) = true := by simp; omega
        clear hf hf2 hml h64
        go_enter Tryd.func21, Tryd.ntmps21
        go_wp2_with fail
        refine (HF.out _ HB0.out).mono ?_
        rintro e w1 ⟨rfl, rfl⟩
        have HZ := hide (HR.out _ HB0.out)
        go_wp2
        exact HZ.out
      · have d16 : decide ((16 : Int) < (m : Int)) = false := by simp; omega
        have d16' : decide (16 < m) = false := by simp; omega
        have HSet := hide (fun (u : World) (hu : Below w.heap.size w u) => refset_c a cap l u (HS.out.below hu) hc hm (by omega) HP.out)
        rw [← hml] at HSet
        unfold RSet at HSet
        cases hS : setF [] 0 l with
        | inr t =>
          obtain ⟨i, c, b⟩ := t
          rw [hS] at HSet
          have hcc : askF L who l = .inr c ∧ c ≠ 0 := by
            cases b with
            | true =>
              have h9 := setF_flag hS
              exact ⟨by unfold askF; rw [hf2, if_neg (by simp), if_neg h64, if_neg (by omega), hS, h9], by rw [h9]; decide⟩
            | false => exact ⟨by unfold askF; rw [hf2, if_neg (by simp), if_neg h64, if_neg (by omega), hS], setF_code hS⟩
          have HR : Hid (∀ w', Below w.heap.size w w' → RPutR w N (.slice av us.length cv) (askF L who l) (.returned (.tuple #[.slice av us.length cv, .int .i64 c])) w') := hide (fun w' hb => by
            rw [hcc.1]; exact ⟨⟨rfl, hcc.2⟩, hb⟩)
          generalize RPutR w N (.slice av us.length cv) (askF L who l) = R at *
          have n0 : (c != 0) = true := by simpa using hcc.2
          have n1 : (c == 0) = false := by simpa using hcc.2
          clear hf hf2 h64 hml hcc hS
          go_enter Tryd.func21, Tryd.ntmps21
          go_wp2_with fail
          refine (HF.out _ HB0.out).mono ?_
          rintro e w1 ⟨rfl, rfl⟩
          go_wp2_with fail
          refine (HSet.out _ HB0.out).mono ?_
          rintro e w2 ⟨rfl, hb⟩
          have HZ := hide (HR.out w2 (keepB hb (Nat.le_refl _) HB0.out))
          clear hb
          go_wp2
          exact HZ.out
        | inl S =>
          rw [hS] at HSet
          have hSh : ∀ p ∈ S, p.length ≤ 200 := fun p hp => HP.out p ((set_mem hS p).2 hp)
          have HR : Hid (∀ w' v', RkW w' N v' (L ++ [(who, S)]) → Below w.heap.size w w' → RPutR w N (.slice av us.length cv) (askF L who l) (.returned (.tuple #[v', .int .i64 0])) w') := hide (fun w' v' h1 h2 => by
            have e : askF L who l = .inl (L ++ [(who, S)], freeL (L ++ [(who, S)]) L.length) := by unfold askF; rw [hf2, if_neg (by simp), if_neg h64, if_neg (by omega), hS]
            rw [e]; exact ⟨⟨v', rfl, h1⟩, h2⟩)
          generalize RPutR w N (.slice av us.length cv) (askF L who l) = R at *
          have HSh := hide hSh
          have hub : us.length < 64 := by have := Husl.out; omega
          clear hf hf2 h64 hml hS hSh
          go_enter Tryd.func21, Tryd.ntmps21
          go_wp2_with fail
          refine (HF.out _ HB0.out).mono ?_
          rintro e w1 ⟨rfl, rfl⟩
          go_wp2_with fail
          refine (HSet.out _ HB0.out).mono ?_
          rintro e w2 ⟨⟨vS, rfl, hO⟩, hb⟩
          have HB2 := hide (keepB hb (Nat.le_refl _) HB0.out)
          have q0' := keepC hb (Nat.le_refl _) q0
          have hO2 := Pv.OwnS.less hO (Nat.le_trans hN HB0.out.size)
          obtain ⟨aS, cS, rfl, hSf, -, -, -⟩ := hO.form
          have HO2 := hide hO2
          have hb3 := below_new w2 (.cells #[] 58)
          have HB3 := hide (keepB hb3 (Nat.le_refl _) HB2.out)
          have HA3 := hide (HA.out.below HB3.out)
          have HO3 := hide (own_up hO2 hb3)
          have HR3 := hide (OwnR.fresh w2)
          have q3 := keepC hb3 (Nat.le_refl _) q0'
          have hle3 : N ≤ w2.heap.size := Nat.le_trans hN HB2.out.size
          have hle4 : w.heap.size ≤ w2.heap.size := HB2.out.size
          have hBl := hb3.size
          have hlt4 : w.heap.size < w2.heap.size := by have := hb.size; rw [World.size_alloc] at this; omega
          have hI3' : IsAs (w2.alloc (.cells #[] 58)) av us.length cv us := by
            obtain ⟨a', c', e, hI', -⟩ := HA3.out.own.is
            injection e with e1 e2 e3
            subst e1 e3
            exact hI'
          have HI3 := hide hI3'
          have HN3 := hide hb3
          clear hb q0 q1 q0' hO hO2 HB0 HF HSet hb3 hI3' HA3 HO3
          go_wp2_with (refine wpList_appR rfl (.tmp 36) (.tmp 37) rfl (.slice (some ⟨w2.heap.size, 0, none⟩) 0 0) (.slice av us.length cv) w2.heap.size ([] ++ us) rfl rfl (append_asks _ _ _ _ [] us av cv HR3.out hBl HI3.out HNone.out (by have := hub; simp; omega)) ?_)
          intro v4 w4 HO4 HG4
          refine of_hid ?_
          have hB34 : Below w2.heap.size (w2.alloc (.cells #[] 58)) w4 := grown_below HG4.out hBl (fun g e => by
            have e2 : some w2.heap.size = some g := e
            injection e2 with e2
            omega)
          have q4 := (hB34.cell (p := ⟨w.heap.size, 0, none⟩) hlt4).trans q3
          have HB24 := hide (HN3.out.trans hB34)
          have hle5 : w2.heap.size ≤ w4.heap.size := HB24.out.size
          have hb5 := below_new w4 (.cells #[.int .i64 who, .slice aS S.length cS] 58)
          have HX5 := hide (heap_last w4 (.cells #[.int .i64 who, .slice aS S.length cS] 58))
          have hO4 := HO4.out
          have HO5 := hide (hO4.below hb5)
          have HB25 := hide (HB24.out.trans (hb5.mono hle5))
          have hle6 := hb5.size
          clear hB34 hb5 hO4 q3 HO4 HG4 HR3 HI3 HN3 HB24 HB3 hBl
          go_wp2_with (refine wpList_appR rfl (.tmp 39) (.tmp 44) rfl v4 (.slice (some ⟨w4.heap.size, 0, none⟩) 1 1) w2.heap.size (us ++ [(who, aS, S.length, cS)]) rfl rfl (append_one _ _ _ _ us w4.heap.size (who, aS, S.length, cS) _ (0, 0) 1 HO5.out (by omega) HX5.out (by omega) (by omega) (by omega)) ?_)
          intro v6 w6 HO6 HG6
          refine of_hid ?_
          have HB26 := hide (HB25.out.trans (grown_below HG6.out (by omega) (fun g e => (HO5.out.blk e).1)))
          have HB6 := hide (keepB HB26.out (Nat.le_refl _) HB2.out)
          have hZ : RkW w6 N v6 (L ++ [(who, S)]) := by
            have hA6 := HA.out.below HB6.out
            refine ⟨us ++ [(who, aS, S.length, cS)], ?_, ?_, fun i u x h1 h2 => ?_, ?_, fun x hx p hp => ?_⟩
            · obtain ⟨k1, k2⟩ := HO6.out
              refine ⟨k1, ?_⟩
              rcases k2 with k2 | ⟨g, cap, cur, e, hb, r⟩
              · exact .inl k2
              · exact .inr ⟨g, cap, cur, e, Nat.le_trans hle3 hb, r⟩
            · rw [List.length_append, List.length_append, Husl.out]; rfl
            · by_cases hi : i < us.length
              · rw [List.getElem?_append_left hi] at h1
                rw [List.getElem?_append_left (by have := Husl.out; omega)] at h2
                exact hA6.each i u x h1 h2
              · have hi2 : i = us.length := by
                  have := (List.getElem?_eq_some_iff.1 h1).1
                  simp at this
                  omega
                rw [hi2, List.getElem?_append_right (Nat.le_refl _), Nat.sub_self] at h1
                rw [hi2, Husl.out, List.getElem?_append_right (Nat.le_refl _), Nat.sub_self] at h2
                injection h1 with h1
                injection h2 with h2
                subst h1 h2
                exact ⟨rfl, own_up HO2.out HB26.out⟩
            · have := Husl.out
              rw [List.length_append]
              show L.length + 1 ≤ 64
              omega
            · rcases List.mem_append.1 hx with hx | hx
              · exact hA6.short x hx p hp
              · rw [List.mem_singleton.1 hx] at hp
                exact HSh.out p hp
          have HZ := hide (HR.out w6 v6 hZ HB6.out)
          clear hZ HO6 HG6
          go_wp2
          exact HZ.out
end Go.Proofs.YtlhjkacdhfchiaaDoor.Nc
