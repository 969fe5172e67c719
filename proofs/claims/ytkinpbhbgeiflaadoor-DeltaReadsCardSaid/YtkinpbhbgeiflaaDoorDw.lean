/- delta.Read. -/
import Derived.Test.YtkinpbhbgeiflaaDoorDv
import Derived.Test.YtkinpbhbgeiflaaDoorQj
namespace Go.Proofs.YtkinpbhbgeiflaaDoor.Dw
set_option linter.unusedVariables false
set_option linter.unusedSimpArgs false
set_option maxRecDepth 100000
open Go.ChangeShapes Go.WideShapes Go.ChangeAt Go.RowKit
open Go.Proofs.YtkinpbhbgeiflaaDoor.Wu Go.Proofs.YtkinpbhbgeiflaaDoor.Sm Go.Proofs.YtkinpbhbgeiflaaDoor.Sh Go.Proofs.YtkinpbhbgeiflaaDoor.Ba Go.Proofs.YtkinpbhbgeiflaaDoor.Bp Go.Proofs.YtkinpbhbgeiflaaDoor.Bq Go.Proofs.YtkinpbhbgeiflaaDoor.Kv Go.Proofs.YtkinpbhbgeiflaaDoor.Cm Go.Proofs.YtkinpbhbgeiflaaDoor.Cr Go.Proofs.YtkinpbhbgeiflaaDoor.Er Go.Proofs.YtkinpbhbgeiflaaDoor.Eu Go.Proofs.YtkinpbhbgeiflaaDoor.Cv Go.Proofs.YtkinpbhbgeiflaaDoor.Cw Go.Proofs.YtkinpbhbgeiflaaDoor.Cz Go.Proofs.YtkinpbhbgeiflaaDoor.Rk Go.Proofs.YtkinpbhbgeiflaaDoor.Rw Go.Proofs.YtkinpbhbgeiflaaDoor.Rb1 Go.Proofs.YtkinpbhbgeiflaaDoor.Da Go.Proofs.YtkinpbhbgeiflaaDoor.De Go.Proofs.YtkinpbhbgeiflaaDoor.Dl Go.Proofs.YtkinpbhbgeiflaaDoor.Dv
/-- What reading comes to. -/
inductive RR where
  | ok (ts : List Tok)
  | bad (code place : Int)
def readN (L : List Nat) : Nat → Rs → List Tok → RR
  | 0, s, ts => if (s.fin L.length).fe ≠ 0 then .bad (s.fin L.length).fe (s.fin L.length).fa else .ok ts
  | k + 1, s, ts => if rtE s L ≠ 0 then .bad (rtE s L) (rtP s L) else readN L k (rtS s L) (ts ++ [rtT s L])
def readR (L : List Nat) : RR :=
  if ((Rs.mk 0 0 0).num L).fe ≠ 0 then .bad ((Rs.mk 0 0 0).num L).fe ((Rs.mk 0 0 0).num L).fa
  else if 8192 < (Rs.mk 0 0 0).numV L then .bad 2 0 else readN L ((Rs.mk 0 0 0).numV L) ((Rs.mk 0 0 0).num L) []
def ReadP (w : World) (L : List Nat) (e : Ending) (w' : World) : Prop :=
  ∃ v ev, e = .returned (.tuple #[v, ev]) ∧ Below w.heap.size w w' ∧
    ((∃ code place b, readR L = .bad code place ∧ code ≠ 0 ∧ v = .slice none 0 0 ∧ ev = .iface 99 (.pointer (some ⟨b, 0, none⟩)) ∧ w'.heap[b]? = some (.cells #[.int .i64 place, .int .i64 code] 30 (0, 0))) ∨
     (∃ ps : List TV, readR L = .ok (ps.map (·.1)) ∧ ev = .nilIface ∧ OwnT w' w.heap.size v ps ∧ ps.length ≤ 8192))
theorem rtS_at {s : Rs} {L : List Nat} (hs : s.at_ ≤ L.length) (h : rtE s L = 0) : (rtS s L).at_ ≤ L.length := by
  have h1 := num_le hs
  have h2 := num_le h1
  unfold rtE at h
  unfold rtS
  split at h
  · contradiction
  · split at h
    · rename_i h3
      rw [if_pos h3]; exact h2
    · rename_i h3
      rw [if_neg h3]
      split at h
      · cases h
      · split at h
        · cases h
        · simp only
          omega
theorem own_grown {w w' : World} {N g : Nat} {v : Value} {ps : List TV} (h : OwnT w N v ps) (hg : w.grownBy w' (some g)) (hgN : g < N) : OwnT w' N v ps :=
  h.same hg.size (fun k hk => hg.block k (h.own k hk).2 (fun e => by injection e with e; have := (h.own k hk).1; omega)) (fun p hp k hk => hg.block k (h.owns hp k hk).2 (fun e => by injection e with e; have := (h.owns hp k hk).1; omega))
theorem RV.append {w u u' : World} {g : Nat} {o : Option Nat} {a : Option Addr} {m c : Nat} {L : List Nat} {s : Rs} (h : RV w u g a m c L s) (hsrc : ∀ u, Below w.heap.size w u → SrcB u a m L) (hg : u.grownBy u' o) (ho : ∀ k, o = some k → k ≠ g ∧ w.heap.size ≤ k) : RV w u' g a m c L s := by
  have hb := h.below.grown hg h.below.size (fun q hq => (ho q hq).2)
  exact ⟨(hg.block g (heap_lt h.rd) (fun e => (ho g e.symm).1 rfl)).trans h.rd, hsrc _ hb, hb, h.new, h.apart⟩
theorem apart_of {w w' : World} {M N : Nat} {v d : Value} {L : List Nat} (h : Buf w' d M L) (hv : ∀ k, v.ownBlock = some k → k < M) : d.ownBlock = none ∨ d.ownBlock ≠ v.ownBlock := by
  cases hd : d.ownBlock with
  | none => exact .inl rfl
  | some k => exact .inr (fun e => by have h1 := (buf_own h k hd).1; have h2 := hv k e.symm; omega)
theorem apart_of' {w' : World} {M : Nat} {v d : Value} {L : List Nat} (h : Buf w' d M L) (hv : ∀ k, v.ownBlock = some k → k < M) : v.ownBlock = none ∨ v.ownBlock ≠ d.ownBlock := by
  cases hd : v.ownBlock with
  | none => exact .inl rfl
  | some k => exact .inr (fun e => by have h1 := (buf_own h k e.symm).1; have h2 := hv k hd; omega)
theorem tok3_all (f c : Int) (ad : Option Addr) (m cd : Nat) : (#[Value.int .i64 f, .int .i64 c, .slice ad m cd] : Array Value).all (·.oneCell') = true :=
  all_oneCell_toArray (by intro v hv; simp only [List.mem_cons, List.not_mem_nil, or_false] at hv; rcases hv with rfl | rfl | rfl <;> rfl)
set_option maxHeartbeats 3200000 in
theorem read_toks (w : World) (a : Option Addr) (m c : Nat) (L : List Nat) (hs : SrcB w a m L) (hmc : m ≤ c) (hm : m ≤ 1000000) :
    Calls Tryd.prog 30 #[.slice a m c] w (ReadP w L) := by
  have hLm := hs.1
  obtain ⟨s1, hs1⟩ : ∃ s1, s1 = (Rs.mk 0 0 0).num L := ⟨_, rfl⟩
  obtain ⟨n, hn⟩ : ∃ n, n = (Rs.mk 0 0 0).numV L := ⟨_, rfl⟩
  have ha1 : s1.at_ ≤ m := by rw [hs1, ← hLm]; exact num_le (by simp)
  have hnb : n ≤ 1099511627776 := by rw [hn]; exact Rs.numV_max _ _
  have HRd : Hid (readR L = if s1.fe ≠ 0 then .bad s1.fe s1.fa else if 8192 < n then .bad 2 0 else readN L n s1 []) := hide (by unfold readR; rw [← hs1, ← hn])
  have HSr : Hid (∀ u, Below w.heap.size w u → SrcB u a m L) := hide (fun u hu => hs.below hu)
  have HR1 := hide (RV.read (c := c) hs (Below.refl _ w))
  have HN1 := hide (fun (u : World) (hu : RV w u w.heap.size a m c L ⟨0, 0, 0⟩) => num_c w.heap.size a m c L ⟨0, 0, 0⟩ u hu.rd hu.src (by simp) hmc (by omega))
  rw [← hs1, ← hn] at HN1
  have HLm := hide hLm
  clear hs1 hn hs hLm
  go_enter Tryd.func30, Tryd.ntmps30
  go_wp2_with fail
  refine (read_c a m c _).mono ?_
  rintro e w1 ⟨rfl, hw1⟩
  rw [hw1] at HR1
  clear hw1
  go_wp2_with fail
  refine (HN1.out w1 HR1.out).mono ?_
  rintro e w2 ⟨rfl, hr2, hg2⟩
  have HR2 := hide (HR1.out.step hr2 hg2)
  clear hr2 hg2 HR1 HN1
  have HEr := hide (err_c w.heap.size a m c s1 w2 HR2.out.rd)
  go_wp2_with fail
  refine HEr.out.mono ?_
  rintro e w3 ⟨ev, rfl, hev, hb3⟩
  have HR3 := hide (HR2.out.up hb3)
  clear hb3 HR2 HEr
  rcases hev with ⟨hfe, rfl⟩ | ⟨hfe, rfl, hbf⟩
  · by_cases hbig : 8192 < n
    · have HP : Hid (readR L = .bad 2 0) := hide (by rw [HRd.out, if_neg (by simpa using hfe), if_pos hbig])
      have d1 : decide ((8192 : Int) < (n : Int)) = true := by simp; omega
      have d1' : decide (8192 < n) = true := by simpa using hbig
      have HF := hide (heap_last w3 (.cells #[.int .i64 0, .int .i64 2] 30))
      have HB := hide (keepB (below_new w3 (.cells #[.int .i64 0, .int .i64 2] 30)) (Nat.le_refl _) HR3.out.below)
      clear HR3 HRd hfe
      go_wp2
      go_ret2
      exact ⟨_, _, rfl, HB.out, .inl ⟨2, 0, _, HP.out, by decide, rfl, rfl, HF.out⟩⟩
    · have HRd2 : Hid (readR L = readN L n s1 []) := hide (by rw [HRd.out, if_neg (by simpa using hfe), if_neg hbig])
      have d1 : decide ((8192 : Int) < (n : Int)) = false := by simp; omega
      have d1' : decide (8192 < n) = false := by simpa using hbig
      clear HRd hfe
      go_wp2_with fail
      go_loopw [7, 26] (fun x j wr => ∃ i v, v = x ∧ j = .int .i64 ((i : Nat) : Int) ∧ i ≤ n ∧ ∃ (s : Rs) (ps : List TV), readR L = readN L (n - i) s (ps.map (·.1)) ∧ ps.length = i ∧ s.at_ ≤ m ∧ OwnT wr (w.heap.size + 1) v ps ∧ RV w wr w.heap.size a m c L s) (fun _ j _ => n - (intOf j).toNat)
      case atStart => exact ⟨0, _, rfl, rfl, Nat.zero_le _, s1, [], HRd2.out, rfl, ha1, OwnT.nil _ _, HR3.out⟩
      case round =>
        clear HR3 HRd2
        obtain ⟨i, v, rfl, rfl, hi, s, ps, hrd, hpl, hat, hO, hR⟩ := hrel
        have HRd := hide hrd
        have HO := hide hO
        have HR := hide hR
        have hgw : w.heap.size < wr.heap.size := heap_lt hR.rd
        clear hrd hO hR
        by_cases hlt : i < n
        · have e1 : decide ((i : Int) < (n : Int)) = true := by simpa using hlt
          have i1 : (0 : Int) ≤ (i : Int) := by omega
          have i2 : (i : Int) < (n : Int) := by omega
          have HStep : Hid (readR L = if rtE s L ≠ 0 then .bad (rtE s L) (rtP s L) else readN L (n - (i + 1)) (rtS s L) (ps.map (·.1) ++ [rtT s L])) := hide (by
            rw [HRd.out, show n - i = (n - (i + 1)) + 1 by omega, readN])
          have Htc := hide (token_c w wr w.heap.size a m c L s HR.out HSr.out hat hmc hm)
          have HLa := hide (fun h => rtS_at (s := s) (L := L) (by rw [HLm.out]; exact hat) h)
          obtain ⟨re, hre⟩ : ∃ re, re = rtE s L := ⟨_, rfl⟩
          clear HRd
          go_wp2_with fail
          refine Htc.out.mono ?_
          rintro e w4 ⟨tv, ev, rfl, hg4, hcase⟩
          have HO4 := hide (own_grown HO.out hg4 (by omega))
          have HG4 := hide hg4
          have hwr4 : wr.heap.size ≤ w4.heap.size := hg4.size
          clear hg4 Htc
          rcases hcase with ⟨hE, rfl, b, rfl, hb⟩ | ⟨hE, rfl, d, rfl, hbuf, hrv⟩
          · have HBf := hide hb
            have HP : Hid (readR L = .bad (rtE s L) (rtP s L) ∧ rtE s L ≠ 0) := hide ⟨by rw [HStep.out, if_pos hE], hE⟩
            have HB4 := hide (belowG HR.out.below HG4.out (by omega) HR.out.below.size)
            clear hb hE HStep HLa HO4 HG4 HO HR
            unfold zeroT
            go_wp2_with (refine wpList_store_all rfl 68 _ _ rfl w4.heap.size #[.int .i64 0, .int .i64 0, .slice none 0 0] _ 68 rfl rfl (heap_last _ _) rfl (by kernel_rfl) (tok3_all _ _ _ _ _) ?_)
            intro w5 H5 HG5
            refine of_hid ?_
            have hb5 : Below w4.heap.size w4 w5 := belowG (below_new w4 (.cells #[.int .i64 0, .int .i64 0, .slice none 0 0] 68)) HG5.out (Nat.le_refl _) (by simp)
            have HB5 := hide (keepB hb5 (Nat.le_refl _) HB4.out)
            have HF5 := hide (below_blk hb5 (heap_lt HBf.out) HBf.out)
            clear hb5 HG5 H5 HBf HB4
            go_wp2
            go_ret2
            exact ⟨_, _, rfl, HB5.out, .inl ⟨_, _, b, HP.out.1, HP.out.2, rfl, rfl, HF5.out⟩⟩
          · have HP : Hid (readR L = readN L (n - (i + 1)) (rtS s L) (ps.map (·.1) ++ [rtT s L])) := hide (by rw [HStep.out, if_neg (by simpa using hE)])
            have hat' := HLa.out hE
            rw [HLm.out] at hat'
            have HBf := hide hbuf
            have HR4 := hide hrv
            obtain ⟨da, dc, hdv, -⟩ := hbuf.form
            obtain ⟨dn, hdn⟩ : ∃ dn, dn = (rtT s L).d.length := ⟨_, rfl⟩
            rw [← hdn] at hdv
            subst hdv
            have Hoff := hide (apart_of (w := w) (N := 0) (v := v) HBf.out (fun k hk => (HO.out.own k hk).2))
            have Hap : Hid (∀ p ∈ ps, p.2.ownBlock = none ∨ p.2.ownBlock ≠ (Value.slice da dn dc).ownBlock) := hide (fun p hp => apart_of' HBf.out (fun k hk => (HO.out.owns hp k hk).2))
            have HvB := hide (fun k hk => (HO.out.own k hk))
            obtain ⟨t, ht⟩ : ∃ t, t = rtT s L := ⟨_, rfl⟩
            obtain ⟨s', hs'⟩ : ∃ s', s' = rtS s L := ⟨_, rfl⟩
            rw [← ht] at HBf HP ⊢
            rw [← hs'] at HP HR4 hat'
            clear hbuf hrv hE HStep HLa HG4 HO HR hdn ht hs' hre
            go_wp2_with (refine wpList_store_all rfl 68 _ _ rfl w4.heap.size #[.int .i64 t.f, .int .i64 t.c, .slice da dn dc] _ 68 rfl rfl (heap_last _ _) rfl (by kernel_rfl) (tok3_all _ _ _ _ _) ?_)
            intro w5 H5 HG5
            refine of_hid ?_
            have hb5 : Below w4.heap.size w4 w5 := belowG (below_new w4 (.cells #[.int .i64 0, .int .i64 0, .slice none 0 0] 68)) HG5.out (Nat.le_refl _) (by simp)
            have hO5 := HO4.out.below hb5
            have hR5 := HR4.out.up hb5
            have hBf5 := buf_up (buf_down HBf.out (N := w.heap.size + 1) (by omega)) hb5
            have hN5 : w.heap.size + 1 ≤ w5.heap.size := by have := hb5.size; omega
            have hrg : w5.rangeAt w4.heap.size 0 [.int .i64 t.f, .int .i64 t.c, .slice da dn dc] := fun j x hx => blk_cell H5.out (by simpa using hx)
            have hnw := below_new w5 (.cells #[.int .i64 t.f, .int .i64 t.c, .slice da dn dc] 68)
            obtain ⟨v', w7, hrun, ho7, hg7, hown7⟩ := append_tok (w5.alloc (.cells #[.int .i64 t.f, .int .i64 t.c, .slice da dn dc] 68)) 53 v (w.heap.size + 1) ps w5.heap.size t (.slice da dn dc) 68 (0, 0) 1 (hO5.below hnw) (Nat.le_trans hN5 hnw.size) (heap_last _ _) (buf_up hBf5 hnw) Hoff.out Hap.out (by omega)
            have hR7 := RV.append (hR5.up hnw) HSr.out hg7 (fun k hk => by have := (HvB.out k hk).1; omega)
            have HO7 := hide ho7
            have HR7 := hide hR7
            have Hrun := hide hrun
            clear hb5 HG5 hO5 hR5 hBf5 hN5 hnw hrun ho7 hg7 hown7 hR7 HBf HR4 HO4 Hoff Hap HvB H5
            go_wp2_with (first
              | (refine wpList_load_part rfl 68 _ rfl w4.heap.size 0 [.int .i64 t.f, .int .i64 t.c, .slice da dn dc] rfl hrg _ Tryd.underlying68 rfl (by kernel_rfl) ?_)
              | (refine wpList_slice_to rfl 53 1 _ rfl [(0, .agg #[.int .i64 t.f, .int .i64 t.c, .slice da dn dc])] rfl _ _ (one_tok w5 t.f t.c (.slice da dn dc)) ?_)
              | (refine wpList_append_at rfl 53 (.tmp 38) (.tmp 40) rfl Hrun.out ?_))
            clear hrg Hrun
            go_roundw
            case rel => exact ⟨i + 1, _, rfl, by go_num, by omega, s', ps ++ [(t, .slice da dn dc)], by rw [List.map_append]; exact HP.out, by simp [hpl], hat', HO7.out, HR7.out⟩
            case measure => simp [intOf]; omega
        · obtain rfl : i = n := by omega
          have e1 : decide ((i : Int) < (i : Int)) = false := by simp
          have e1' : decide (i < i) = false := by simp
          have HRe : Hid (readR L = if (s.fin m).fe ≠ 0 then .bad (s.fin m).fe (s.fin m).fa else .ok (ps.map (·.1))) := hide (by rw [HRd.out, Nat.sub_self, readN, HLm.out])
          have HEn := hide (end_c w.heap.size a m c s wr HR.out.rd (by omega))
          clear HRd hi
          go_wp2_with fail
          refine HEn.out.mono ?_
          rintro e w5 ⟨ev, rfl, hev, -, hg5⟩
          have HO5 := hide (own_grown HO.out hg5 (by omega))
          have HB5 := hide (belowG HR.out.below hg5 (by omega) HR.out.below.size)
          clear hg5 HEn HO HR
          rcases hev with ⟨hfe, rfl⟩ | ⟨hfe, b, hbl, rfl, hb⟩
          · have HP : Hid (readR L = .ok (ps.map (·.1))) := hide (by rw [HRe.out, if_neg (by simpa using hfe)])
            clear hfe HRe
            go_wp2
            go_ret2
            exact ⟨_, _, rfl, HB5.out, .inr ⟨ps, HP.out, rfl, Go.Proofs.YtkinpbhbgeiflaaDoor.Dl.OwnT.down HO5.out (by omega), by omega⟩⟩
          · have HP : Hid (readR L = .bad (s.fin m).fe (s.fin m).fa ∧ (s.fin m).fe ≠ 0) := hide ⟨by rw [HRe.out, if_pos hfe], hfe⟩
            have HF := hide hb
            clear hfe HRe hb
            go_wp2
            go_ret2
            exact ⟨_, _, rfl, HB5.out, .inl ⟨_, _, b, HP.out.1, HP.out.2, rfl, rfl, HF.out⟩⟩
  · have HP : Hid (readR L = .bad s1.fe s1.fa ∧ s1.fe ≠ 0) := hide ⟨by rw [HRd.out, if_pos hfe], hfe⟩
    have HF := hide hbf
    clear hfe HRd hbf
    go_wp2
    go_ret2
    exact ⟨_, _, rfl, HR3.out.below, .inl ⟨_, _, _, HP.out.1, HP.out.2, rfl, rfl, HF.out⟩⟩
end Go.Proofs.YtkinpbhbgeiflaaDoor.Dw
