/- lock: Ask. -/
import Derived.Test.YtlhjkacdhfchiaaDoorLh
import Derived.Test.YtlhjkacdhfchiaaDoorPv
namespace Go.Proofs.YtlhjkacdhfchiaaDoor.Li
set_option linter.unusedVariables false
set_option linter.unusedSimpArgs false
set_option maxRecDepth 100000
open Go.ChangeShapes Go.WideShapes Go.ChangeAt Go.RowKit
open Go.Proofs.YtlhjkacdhfchiaaDoor.Wu Go.Proofs.YtlhjkacdhfchiaaDoor.Ps Go.Proofs.YtlhjkacdhfchiaaDoor.Pu Go.Proofs.YtlhjkacdhfchiaaDoor.Px Go.Proofs.YtlhjkacdhfchiaaDoor.La Go.Proofs.YtlhjkacdhfchiaaDoor.Lb Go.Proofs.YtlhjkacdhfchiaaDoor.Lc Go.Proofs.YtlhjkacdhfchiaaDoor.Ld Go.Proofs.YtlhjkacdhfchiaaDoor.Le Go.Proofs.YtlhjkacdhfchiaaDoor.Lg Go.Proofs.YtlhjkacdhfchiaaDoor.Lh
open Go.Proofs.YtlhjkacdhfchiaaDoor.Ba (of_hid)
/-- An error of a number: the number itself, a Fault, or one of two. -/
def ErrV (w : World) (v : Value) (c : Int) : Prop := v = .iface 28 (.int .i64 c) ∨ (∃ i, IsJoin w v i ∧ c = 90) ∨ ∃ i, IsFault w v i c
/-- Ask's answer: the asks then and whether there is nothing in the way, or the error's number. -/
def askF (L : List Wh) (who : Int) (l : List (List UInt8)) : (List Wh × Bool) ⊕ Int :=
  if (L.findIdx? (whoIs who)).isSome then .inr 5 else if L.length = 64 then .inr 3 else if 16 < l.length then .inr 2 else
    match setF [] 0 l with
    | .inl S => .inl (L ++ [(who, S)], freeL (L ++ [(who, S)]) L.length)
    | .inr (_, _, true) => .inr 90
    | .inr (_, c, false) => .inr c
def AskR (w : World) (N P : Nat) (r : (List Wh × Bool) ⊕ Int) (e : Ending) (w' : World) : Prop := match r with
  | .inl (L', b) => e = .returned (.tuple #[.bool b, .nilIface]) ∧ LkW w' N P L' ∧ Kp w w' ∧ Below N w w'
  | .inr c => ∃ v, e = .returned (.tuple #[.bool false, v]) ∧ ErrV w' v c ∧ Below w.heap.size w w'
theorem OwnA.blk {w : World} {N g : Nat} {v : Value} {us : List La.Ask} (h : OwnA w N v us) (hg : v.ownBlock = some g) : N ≤ g ∧ ∃ c f, w.heap[g]? = some (.cells c 111 f) := by
  obtain ⟨h1, h2⟩ := h
  rcases h2 with ⟨rfl, _⟩ | ⟨g', cap, cur, rfl, hb, hh, r⟩
  · cases hg
  · have e : some g' = some g := hg
    injection e with e
    subst e
    exact ⟨hb, _, _, hh⟩
theorem OwnS.blk {w : World} {N g : Nat} {v : Value} {S : List (List UInt8)} (h : OwnS w N v S) (hg : v.ownBlock = some g) : N ≤ g ∧ ∃ c f, w.heap[g]? = some (.cells c 9 f) := by
  obtain ⟨h1, h2⟩ := h
  rcases h2 with ⟨rfl, _⟩ | ⟨g', cap, cur, rfl, hb, hh, r⟩
  · cases hg
  · have e : some g' = some g := hg
    injection e with e
    subst e
    exact ⟨hb, _, _, hh⟩
theorem ne_cells {w : World} {i j : Nat} {c c' : Array Value} {T T' : TypeId} {f f' : Nat × Nat} (h : w.heap[i]? = some (.cells c T f)) (h' : w.heap[j]? = some (.cells c' T' f')) (hT : T ≠ T') : i ≠ j := by
  intro e
  rw [e, h'] at h
  injection h with h
  injection h with _ h _
  exact hT h.symm
theorem wpList_appA {w : World} {ops : Array Oper} {rest : List Oper} {o : Oper} {a : Act} {Q : Exit → Act → World → Prop} (hgd : o.guard = none) (s x : Operand)
    (ho : o.op = .call { callee := .builtin .append, args := #[s, x], argTypes := #[101, 101] }) (v : Value) (N : Nat) (us : List La.Ask) (b : Nat) (u : La.Ask) (T : TypeId) (f : Nat × Nat) (c : Nat)
    (hs : a.eval s = v) (hx : a.eval x = .slice (some ⟨b, 0, none⟩) 1 c) (h : OwnA w N v us) (hN : N ≤ w.heap.size) (hb : w.heap[b]? = some (.cells #[.int .i64 u.1, pv u] T f)) (hbig : us.length ≤ 1000000)
    (hK : ∀ v' w', Hid (OwnA w' N v' (us ++ [u])) → Hid (w.grownBy w' v.ownBlock) → Hid (wpList Tryd.prog ops Q rest (a.put o.dst v') w')) : wpList Tryd.prog ops Q (o :: rest) a w := by
  obtain ⟨v', w', hr, h1, h2, -⟩ := append_ask w o.type v N us b u T f c h hN hb hbig
  refine wpList_plain hgd fun K hK' => ?_
  unfold Oper.wp
  rw [← hs, ← hx] at hr
  simp [execOp, ho, resolve, invoke, builtin, hr, Result.andThen]
  exact hK' _ _ (hK v' w' h1 h2)
/-- Behind append and the store. -/
theorem LkA.put {w w4 : World} {N P : Nat} {v v' : Value} {us us' : List La.Ask} {L L' : List Wh} (h : LkA w N P v us L) (ho : OwnA w4 N v' us') (hg : w.grownBy w4 v.ownBlock) (hl : us'.length = L'.length)
    (he : ∀ (i : Nat) (u : La.Ask) (x : Wh), us'[i]? = some u → L'[i]? = some x → u.1 = x.1 ∧ OwnS w N (pv u) x.2) (hf : L'.length ≤ 64) :
    LkA (w4.setCell ⟨P, 0, none⟩ v') N P v' us' L' ∧ Kp w (w4.setCell ⟨P, 0, none⟩ v') ∧ (N ≤ w.heap.size → Below N w (w4.setCell ⟨P, 0, none⟩ v')) ∧ w4.cell? ⟨P, 0, none⟩ = some v ∧ w4.frozen? ⟨P, 0, none⟩ = false := by
  have hPv : some P ≠ v.ownBlock := fun e => by
    obtain ⟨_, c, f, hc⟩ := OwnA.blk h.own e.symm
    exact ne_cells h.obj hc (by decide) rfl
  have hP4 := (hg.block P (heap_lt h.obj) hPv).trans h.obj
  have hset : ∀ k, k ≠ P → (w4.setCell ⟨P, 0, none⟩ v').heap[k]? = w4.heap[k]? := fun k hk => RowKit.Below.heap_setCell w4 _ v' k hk
  refine ⟨⟨?_, ho.same fun g hgv => ?_, hl, fun i u x h1 h2 => ⟨(he i u x h1 h2).1, (he i u x h1 h2).2.same fun g hgv => ?_⟩, h.low, hf⟩, fun k o hk n1 n2 => ?_, fun hN => ?_, blk_cell hP4 rfl, blk_free hP4⟩
  · have := blk_set (i := 0) hP4 v'
    rw [this]
    simp
  · obtain ⟨_, c, f, hc⟩ := OwnA.blk ho hgv
    exact hset g (fun e => ne_cells hP4 hc (by decide) e.symm)
  · obtain ⟨_, c, f, hc⟩ := OwnS.blk (he i u x h1 h2).2 hgv
    have h3 : some g ≠ v.ownBlock := fun e => by
      obtain ⟨_, c', f', hc'⟩ := OwnA.blk h.own e.symm
      exact ne_cells hc hc' (by decide) rfl
    have h4 := hg.block g (heap_lt hc) h3
    rw [hset g (fun e => ne_cells h.obj hc (by decide) e.symm), h4]
  · have hkP : k ≠ P := fun e => by
      rw [e, h.obj] at hk
      injection hk with hk
      exact n1 _ _ hk.symm
    have hkv : some k ≠ v.ownBlock := fun e => by
      obtain ⟨_, c, f, hc⟩ := OwnA.blk h.own e.symm
      rw [hc] at hk
      injection hk with hk
      exact n2 _ _ hk.symm
    rw [hset k hkP, hg.block k (heap_lt hk) hkv]
    exact hk
  · exact (((Below.refl N w).grown hg hN (fun k hk => (OwnA.blk h.own hk).1))).setCell (p := ⟨P, 0, none⟩) h.low v'
theorem Kp.below {w w1 w2 : World} (h : Kp w w1) (hb : Below w1.heap.size w1 w2) : Kp w w2 := h.trans (kp_below hb)
set_option maxHeartbeats 3200000 in
theorem ask_c {w : World} {N P : Nat} {L : List Wh} (h : LkW w N P L) (who : Int) (a : Option Addr) (cap : Nat) (l : List (List UInt8)) (hs : SrcS w a l) (hc : l.length ≤ cap) (hm : cap ≤ 9223372036854775807) (hp : ∀ p ∈ l, p.length ≤ 9223372036854775807) (hN : N ≤ w.heap.size) :
    Calls Tryd.prog 22 #[.pointer (some ⟨P, 0, none⟩), .int .i64 who, .slice a l.length cap] w (AskR w N P (askF L who l)) := by
  have HF := hide (find_l h who)
  have HL := hide h
  have HS := hide hs
  have HP := hide hp
  have hfew : L.length ≤ 64 := by obtain ⟨v, us, h⟩ := h; exact h.few
  clear h hs hp
  cases hf : L.findIdx? (whoIs who) with
  | some i =>
    obtain ⟨e1, e2⟩ := placeL_some hf
    rw [e1] at HF
    have HR : Hid (∀ w', Below w.heap.size w w' → AskR w N P (askF L who l) (.returned (.tuple #[.bool false, .iface 28 (.int .i64 5)])) w') := hide (fun w' hb => by
      have e : askF L who l = .inr 5 := by unfold askF; rw [hf]; rfl
      rw [e]; exact ⟨_, rfl, .inl rfl, hb⟩)
    generalize AskR w N P (askF L who l) = R at *
    have d0 : (0 : Int) ≤ (i : Int) := by omega
    clear hf e1 e2
    go_enter Tryd.func22, Tryd.ntmps22
    go_wp2_with fail
    refine HF.out.mono ?_
    rintro e w1 ⟨rfl, hb⟩
    have HZ := hide (HR.out w1 hb)
    clear hb
    go_wp2
    exact HZ.out
  | none =>
    rw [placeL_none hf] at HF
    have hf2 : (L.findIdx? (whoIs who)).isSome = false := by rw [hf]; rfl
    obtain ⟨m, hml⟩ : ∃ m, m = l.length := ⟨_, rfl⟩
    have HML := hide hml
    by_cases h64 : L.length = 64
    · have HR : Hid (∀ w', Below w.heap.size w w' → AskR w N P (askF L who l) (.returned (.tuple #[.bool false, .iface 28 (.int .i64 3)])) w') := hide (fun w' hb => by
        have e : askF L who l = .inr 3 := by unfold askF; rw [hf2]; simp [h64]
        rw [e]; exact ⟨_, rfl, .inl rfl, hb⟩)
      generalize AskR w N P (askF L who l) = R at *
      obtain ⟨v, us, hA⟩ := HL.out
      obtain ⟨av, cv, rfl, hI⟩ := hA.form
      have hus : us.length = 64 := by rw [hA.len]; exact h64
      rw [hus] at hA
      have HA := hide hA
      clear hf hf2 hA hI h64
      go_enter Tryd.func22, Tryd.ntmps22
      go_wp2_with fail
      refine HF.out.mono ?_
      rintro e w1 ⟨rfl, hb⟩
      have HZ := hide (HR.out w1 hb)
      have c0 := blk_cell (i := 0) (HA.out.below hb).obj rfl
      clear hb
      go_wp2
      exact HZ.out
    · obtain ⟨v, us, hA⟩ := HL.out
      obtain ⟨av, cv, rfl, hI⟩ := hA.form
      have hus : us.length ≠ 64 := by rw [hA.len]; exact h64
      have husl := hA.len
      have hub : us.length ≤ 64 := by rw [husl]; exact hfew
      have d64 : ((us.length : Int) == 64) = false := by simp; omega
      have HA := hide hA
      clear hf hA hI HL
      rw [← hml]
      by_cases h16 : 16 < m
      · have HR : Hid (∀ w', Below w.heap.size w w' → AskR w N P (askF L who l) (.returned (.tuple #[.bool false, .iface 28 (.int .i64 2)])) w') := hide (fun w' hb => by
          have e : askF L who l = .inr 2 := by unfold askF; rw [hf2, if_neg (by simp), if_neg h64, if_pos (by omega)]
          rw [e]; exact ⟨_, rfl, .inl rfl, hb⟩)
        generalize AskR w N P (askF L who l) = R at *
        have d16 : decide ((16 : Int) < (m : Int)) = true := by simp; omega
        have d16' : decide (16 < m) = true := by simp; omega
        clear hf2 h64 hml
        go_enter Tryd.func22, Tryd.ntmps22
        go_wp2_with fail
        refine HF.out.mono ?_
        rintro e w1 ⟨rfl, hb⟩
        have HZ := hide (HR.out w1 hb)
        have c0 := blk_cell (i := 0) (HA.out.below hb).obj rfl
        clear hb
        go_wp2
        exact HZ.out
      · have d16 : decide ((16 : Int) < (m : Int)) = false := by simp; omega
        have d16' : decide (16 < m) = false := by simp; omega
        have HSet := hide (fun (u : World) (hu : Below w.heap.size w u) => set_c a cap l u (HS.out.below hu) hc hm (by omega) HP.out)
        rw [← hml] at HSet
        unfold SetR at HSet
        cases hS : setF [] 0 l with
        | inr t =>
          obtain ⟨i, c, b⟩ := t
          rw [hS] at HSet
          obtain ⟨cc, hcc⟩ : ∃ cc, askF L who l = .inr cc ∧ ∀ w' v, (if b = true then IsJoin w' v (i : Int) else IsFault w' v (i : Int) c) → ErrV w' v cc := by
            cases b with
            | true => exact ⟨90, by unfold askF; rw [hf2, if_neg (by simp), if_neg h64, if_neg (by omega), hS], fun w' v hv => .inr (.inl ⟨_, by simpa using hv, rfl⟩)⟩
            | false => exact ⟨c, by unfold askF; rw [hf2, if_neg (by simp), if_neg h64, if_neg (by omega), hS], fun w' v hv => .inr (.inr ⟨_, by simpa using hv⟩)⟩
          have HR : Hid (∀ w' v, ErrV w' v cc → Below w.heap.size w w' → AskR w N P (askF L who l) (.returned (.tuple #[.bool false, v])) w') := hide (fun w' v hv hb => by
            rw [hcc.1]; exact ⟨_, rfl, hv, hb⟩)
          have HSt : Hid (∀ u, Below w.heap.size w u → Calls Tryd.prog 44 #[.slice a m cap] u fun e w' => ∃ T v, e = .returned (.tuple #[.slice none 0 0, .iface T v]) ∧ ErrV w' (.iface T v) cc ∧ Below u.heap.size u w') := hide (fun u hu => (HSet.out u hu).mono (by
            rintro e w' ⟨h1, hb⟩
            cases b with
            | true =>
              obtain ⟨v, he, hj⟩ := h1
              have hE := hcc.2 w' v (by simpa using hj)
              obtain ⟨J, K, b, y, rfl, _⟩ := hj
              exact ⟨_, _, he, hE, hb⟩
            | false =>
              obtain ⟨v, he, hj⟩ := h1
              have hE := hcc.2 w' v (by simpa using hj)
              obtain ⟨b, rfl, _⟩ := hj
              exact ⟨_, _, he, hE, hb⟩))
          generalize AskR w N P (askF L who l) = R at *
          clear hf2 h64 hml hcc HSet hS
          go_enter Tryd.func22, Tryd.ntmps22
          go_wp2_with fail
          refine HF.out.mono ?_
          rintro e w1 ⟨rfl, hb⟩
          have HB1 := hide hb
          have c0 := blk_cell (i := 0) (HA.out.below hb).obj rfl
          clear hb
          go_wp2_with fail
          refine (HSt.out w1 HB1.out).mono ?_
          rintro e w2 ⟨T, v, rfl, hE, hb⟩
          have HZ := hide (HR.out w2 _ hE (keepB hb (Nat.le_refl _) HB1.out))
          clear hb hE c0
          go_wp2
          exact HZ.out
        | inl S =>
          rw [hS] at HSet
          have hl64 : L.length + 1 ≤ 64 := by omega
          have HR : Hid (∀ w', LkW w' N P (L ++ [(who, S)]) → Kp w w' → Below N w w' → AskR w N P (askF L who l) (.returned (.tuple #[.bool (freeL (L ++ [(who, S)]) L.length), .nilIface])) w') := hide (fun w' h1 h2 h3 => by
            have e : askF L who l = .inl (L ++ [(who, S)], freeL (L ++ [(who, S)]) L.length) := by unfold askF; rw [hf2, if_neg (by simp), if_neg h64, if_neg (by omega), hS]
            rw [e]; exact ⟨rfl, h1, h2, h3⟩)
          generalize AskR w N P (askF L who l) = R at *
          have hat : (L ++ [(who, S)])[L.length]? = some (who, S) := by simp
          have HAt := hide hat
          obtain ⟨fb, hfb⟩ : ∃ fb, fb = freeL (L ++ [(who, S)]) L.length := ⟨_, rfl⟩
          have HFb := hide hfb
          rw [← hfb] at HR
          have Husl := hide husl
          clear hf2 h64 hml hS hat hfb husl
          go_enter Tryd.func22, Tryd.ntmps22
          go_wp2_with fail
          refine HF.out.mono ?_
          rintro e w1 ⟨rfl, hb⟩
          have HB1 := hide hb
          have c0 := blk_cell (i := 0) (HA.out.below hb).obj rfl
          clear hb
          go_wp2_with fail
          refine (HSet.out w1 HB1.out).mono ?_
          rintro e w2 ⟨⟨vS, rfl, hO⟩, hb⟩
          have HB2 := hide (keepB hb (Nat.le_refl _) HB1.out)
          have HA2 := hide (HA.out.below HB2.out)
          have hO2 := Pv.OwnS.less hO (Nat.le_trans hN HB1.out.size)
          obtain ⟨aS, cS, rfl, hSf, -, -, -⟩ := hO.form
          have HO := hide (own_up hO2 (below_new w2 (.cells #[.int .i64 who, .slice aS S.length cS] 111)))
          clear hb c0 hO hO2 HB1 HF HSet
          have c0 := blk_cell (i := 0) HA2.out.obj rfl
          have hb3 := below_new w2 (.cells #[.int .i64 who, .slice aS S.length cS] 111)
          have HB3 := hide (keepB hb3 (Nat.le_refl _) HB2.out)
          have HA3 := hide (HA2.out.below hb3)
          have HX3 := hide (heap_last w2 (.cells #[.int .i64 who, .slice aS S.length cS] 111))
          clear hb3 HA2 HB2
          go_wp2_with (refine wpList_appA rfl (.tmp 41) (.tmp 45) rfl (.slice av us.length cv) N us w2.heap.size (who, aS, S.length, cS) 111 (0, 0) 1 rfl rfl HA3.out.own (Nat.le_trans hN HB3.out.size) HX3.out (by omega) ?_)
          intro v4 w4 HO4 HG4
          refine of_hid ?_
          obtain ⟨hA5, hK5, hB5, k0, f0⟩ := LkA.put HA3.out (L' := L ++ [(who, S)]) HO4.out HG4.out (by simp [Husl.out]) (fun i u x h1 h2 => by
            by_cases hi : i < us.length
            · rw [List.getElem?_append_left hi] at h1
              rw [List.getElem?_append_left (by have := Husl.out; omega)] at h2
              exact HA3.out.each i u x h1 h2
            · have hi2 : i = us.length := by
                have := (List.getElem?_eq_some_iff.1 h1).1
                simp at this
                omega
              subst hi2
              simp at h1
              rw [Husl.out] at h2
              simp at h2
              subst h1 h2
              exact ⟨rfl, HO.out⟩) (by simp; omega)
          have HA5 := hide hA5
          have HK5 := hide (((kp_below HB3.out).trans hK5))
          have HSz : Hid (w.heap.size ≤ (w4.setCell ⟨P, 0, none⟩ v4).heap.size) := hide (Nat.le_trans HB3.out.size (Nat.le_trans HG4.out.size (by simp)))
          have HB5 := hide ((HB3.out.mono hN).trans (hB5 (Nat.le_trans hN HB3.out.size)))
          obtain ⟨a4, c4, rfl, -⟩ := HO4.out.is
          have hlen4 : (us ++ [((who, aS, S.length, cS) : La.Ask)]).length = us.length + 1 := by simp
          rw [hlen4] at HA5 HK5 HB5 HSz ⊢
          have c5 : (w4.setCell ⟨P, 0, none⟩ (.slice a4 (us.length + 1) c4)).cell? ⟨P, 0, none⟩ = some (.slice a4 (us.length + 1) c4) := blk_cell (i := 0) HA5.out.obj rfl
          have hw1 : IntKind.i64.wrap ((us.length : Int) + 1 - 1) = (us.length : Int) := by
            rw [show (us.length : Int) + 1 - 1 = (us.length : Int) by omega]
            exact IntWalk.i64_in _ (by omega)
          clear hA5 hK5 hB5 HA3 HX3 HO4 HG4 HO c0 hSf hlen4
          go_wp2_with fail
          generalize w4.setCell ⟨P, 0, none⟩ (.slice a4 (us.length + 1) c4) = w5 at *
          have HL5 : Hid (LkW w5 N P (L ++ [(who, S)])) := hide ⟨_, _, HA5.out⟩
          have HFr := hide (free_l HL5.out HAt.out)
          rw [← HFb.out, ← Husl.out] at HFr
          clear HA5 c5
          refine HFr.out.mono ?_
          rintro e w6 ⟨rfl, hb⟩
          have HZ := hide (HR.out w6 (HL5.out.below hb) (Kp.below HK5.out hb) (HB5.out.trans (hb.mono (Nat.le_trans hN HSz.out))))
          clear hb HFr
          go_wp2
          exact HZ.out
end Go.Proofs.YtlhjkacdhfchiaaDoor.Li
