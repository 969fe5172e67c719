/- SlotPlays' walk. -/
import Derived.Test.YtlhjkacdhfchiaaXf
import Derived.Test.YtlhjkacdhfchiaaXo
namespace Go.Proofs.Ytlhjkacdhfchiaa.SlotPlaysW
set_option linter.unusedVariables false
set_option linter.unusedSimpArgs false
set_option maxRecDepth 100000
open Go.ChangeShapes Go.WideShapes Go.ChangeAt Go.RowKit
open Go.Proofs.Ytlhjkacdhfchiaa.Wu Go.Proofs.Ytlhjkacdhfchiaa.Rk Go.Proofs.Ytlhjkacdhfchiaa.Rg Go.Proofs.Ytlhjkacdhfchiaa.Km Go.Proofs.Ytlhjkacdhfchiaa.Xa Go.Proofs.Ytlhjkacdhfchiaa.Xb Go.Proofs.Ytlhjkacdhfchiaa.Xc Go.Proofs.Ytlhjkacdhfchiaa.Xd Go.Proofs.Ytlhjkacdhfchiaa.Xm Go.Proofs.Ytlhjkacdhfchiaa.Xe Go.Proofs.Ytlhjkacdhfchiaa.Xf Go.Proofs.Ytlhjkacdhfchiaa.Xo
attribute [local go_sem] kUpon_value kUpon_skip kUpon_enter
theorem out_walk (a : Option Addr) (m c : Nat) (o : OpT) (w : World) (hg : 200 < m) :
    Calls Try.prog 3 #[.slice a m c, .agg #[.int .i64 o.k, .int .i64 o.who, .int .i64 o.sl, .string o.nm]] w fun e w' => e = .returned (.bool true) ∧ Below w.heap.size w w' := by
  have HB := hide (below_new w (.cells #[.int .i64 o.k, .int .i64 o.who, .int .i64 o.sl, .string o.nm] 24))
  have HH := hide (enters_c (w.alloc (.cells #[.int .i64 o.k, .int .i64 o.who, .int .i64 o.sl, .string o.nm] 24)))
  have d1 : decide ((200 : Int) < (m : Int)) = true := by simp; omega
  have d1' : decide (200 < m) = true := by simp; omega
  go_enter Try.func3, Try.ntmps3
  go_wp2_with fail
  generalize w.alloc (.cells #[.int .i64 o.k, .int .i64 o.who, .int .i64 o.sl, .string o.nm] 24) = w0 at *
  refine HH.out.mono ?_
  rintro e w1 ⟨rfl, hb⟩
  have HB1 := hide (keepB hb (Nat.le_refl _) HB.out)
  clear hb
  go_wp2
  go_ret
  exact ⟨rfl, HB1.out⟩
/-- What the law has before each of what is done: the Slots with L, its own list K. -/
structure PS (w w0 : World) (P M : Nat) (ask : OpT) (L K : List Sl) (v : Value) (wr : World) : Prop where
  lw : Lw w0 P M L wr
  own : OwnI wr w0.heap.size v K
  all : Below w.heap.size w wr
  obj : wr.heap[w.heap.size]? = some (.cells #[.int .i64 ask.k, .int .i64 ask.who, .int .i64 ask.sl, .string ask.nm] 24 (0, 0))
  lo : w.heap.size < w0.heap.size
theorem PS.up {w w0 wr wq : World} {P M : Nat} {ask : OpT} {L K : List Sl} {v : Value} (h : PS w w0 P M ask L K v wr) (hb : Below wr.heap.size wr wq) : PS w w0 P M ask L K v wq :=
  ⟨h.lw.up hb, h.own.below hb, keepB hb (Nat.le_refl _) h.all, below_blk hb (heap_lt h.obj) h.obj, h.lo⟩
theorem PS.turn {w w0 wr wq : World} {P M : Nat} {ask : OpT} {L K L' : List Sl} {v : Value} (h : PS w w0 P M ask L K v wr) (hs : SlW wq P M L') (hg : wr.grownBy wq (some M)) : PS w w0 P M ask L' K v wq :=
  ⟨h.lw.turn hs hg, h.own.slots h.lw.slots hg, h.all.grown hg h.all.size (fun k hk => by injection hk with hk; have := h.lw.low; have := h.lo; omega), h.lw.cells hg h.obj, h.lo⟩
theorem own_ne {w : World} {N g B : Nat} {v : Value} {K : List Sl} {c : Array Value} {T : TypeId} {f : Nat × Nat} (h : OwnI w N v K) (hb : w.heap[B]? = some (.cells c T f)) (hT : T ≠ 30) : some B ≠ v.ownBlock := by
  intro e
  obtain ⟨_, c', f', hg⟩ := h.blk e.symm
  rw [hg] at hb
  injection hb with hb
  injection hb with _ hb _
  exact hT hb.symm
theorem PS.app {w w0 wr wq : World} {P M : Nat} {ask : OpT} {L K K' : List Sl} {v v' : Value} (h : PS w w0 P M ask L K v wr) (ho : OwnI wq w0.heap.size v' K') (hg : wr.grownBy wq v.ownBlock) : PS w w0 P M ask L K' v' wq := by
  have hP := (hg.block P (heap_lt h.lw.slots.obj) (own_ne (g := 0) h.own h.lw.slots.obj (by decide))).trans h.lw.slots.obj
  have hM : some M ≠ v.ownBlock := by
    intro e
    obtain ⟨_, c', T', f', hg⟩ := h.own.cells e.symm
    exact ne_map h.lw.slots hg rfl
  have hlo := h.lo
  exact ⟨⟨⟨hP, h.lw.slots.map.same (hg.block M h.lw.slots.map.lt hM)⟩, h.lw.below.grown hg h.lw.below.size (fun k hk => (h.own.cells hk).1), h.lw.low⟩, ho,
    h.all.grown hg h.all.size (fun k hk => by have := (h.own.cells hk).1; omega), (hg.block _ (heap_lt h.obj) (own_ne (g := 0) h.own h.obj (by decide))).trans h.obj, h.lo⟩
theorem PS.new {w w0 wr wq : World} {P M : Nat} {ask : OpT} {L K K' : List Sl} {v v' : Value} (h : PS w w0 P M ask L K v wr) (hb : Below wr.heap.size wr wq) (ho : OwnI wq w0.heap.size v' K') : PS w w0 P M ask L K' v' wq :=
  ⟨h.lw.up hb, ho, keepB hb (Nat.le_refl _) h.all, below_blk hb (heap_lt h.obj) h.obj, h.lo⟩
set_option maxHeartbeats 6400000 in
theorem in_walk (a : Option Addr) (m c : Nat) (l : List OpT) (ask : OpT) (w : World) (hl : l.length = m) (hm : m ≤ 200) (g off : Nat) (ha : 0 < m → a = some ⟨g, off, none⟩)
    (hcell : ∀ i o, l[i]? = some o → (∀ j u, (opC o)[j]? = some u → w.cell? ⟨g, off + i * 4 + j, none⟩ = some u) ∧ (Lit.int .i64 o.who).wf = true) (hask : (Lit.int .i64 ask.who).wf = true) :
    Calls Try.prog 3 #[.slice a m c, .agg #[.int .i64 ask.k, .int .i64 ask.who, .int .i64 ask.sl, .string ask.nm]] w fun e w' => e = .returned (.bool true) ∧ Below w.heap.size w w' := by
  have HB := hide (below_new w (.cells #[.int .i64 ask.k, .int .i64 ask.who, .int .i64 ask.sl, .string ask.nm] 24))
  have HX := hide (heap_last w (.cells #[.int .i64 ask.k, .int .i64 ask.who, .int .i64 ask.sl, .string ask.nm] 24))
  have HH := hide (enters_c (w.alloc (.cells #[.int .i64 ask.k, .int .i64 ask.who, .int .i64 ask.sl, .string ask.nm] 24)))
  have d1 : decide ((200 : Int) < (m : Int)) = false := by simp; omega
  have d1' : decide (200 < m) = false := by simp; omega
  have HC := hide hcell
  have Hl := hide hl
  have Hask := hide hask
  clear hcell hl hask
  go_enter Try.func3, Try.ntmps3
  go_wp2_with fail
  generalize w.alloc (.cells #[.int .i64 ask.k, .int .i64 ask.who, .int .i64 ask.sl, .string ask.nm] 24) = w0 at *
  refine HH.out.mono ?_
  rintro e w1 ⟨rfl, hb⟩
  have HX1 := hide (below_blk hb (heap_lt HX.out) HX.out)
  have HB1 := hide (keepB hb (Nat.le_refl _) HB.out)
  clear hb HH HX HB
  go_wp2_with fail
  refine (new_c w1).mono ?_
  rintro e w2 ⟨rfl, hs2, hb2⟩
  have H2 := hide (show PS w w1 (w1.heap.size + 1) w1.heap.size ask [] [] (.slice none 0 0) w2 from ⟨⟨hs2, hb2, Nat.le_refl _⟩, OwnI.nil _ _, keepB hb2 (Nat.le_refl _) HB1.out, below_blk hb2 (heap_lt HX1.out) HX1.out, heap_lt HX1.out⟩)
  have hsz := HB1.out.size
  clear hs2 hb2 HX1 HB1
  generalize w1.heap.size + 1 = P at *
  generalize w1.heap.size = M at *
  clear d1 d1'
  go_wp2_with fail
  go_loopw [6, 30] (fun v j wr => ∃ (i : Nat) (L : List Sl), j = .int .i64 (i : Int) ∧ i ≤ m ∧ L.length ≤ i ∧ PS w w1 P M ask L L v wr) (fun _ j _ => m - (intOf j).toNat)
  case atStart => exact ⟨0, [], rfl, Nat.zero_le _, Nat.le_refl _, H2.out⟩
  case round =>
    clear H2
    obtain ⟨i, L, rfl, hi, hLi, hP⟩ := hrel
    obtain ⟨av, cv, gv, rfl, hfit, hmax, hav, hrow, hcv⟩ := hP.own.form
    have HP := hide hP
    have HCv := hide hcv
    have HRow := hide hrow
    have hLn := hLi
    clear hcv hP hrow
    by_cases hlt : i < m
    · have d1 : decide ((i : Int) < (m : Int)) = true := by simpa using hlt
      have i1 : (0 : Int) ≤ (i : Int) := by omega
      have i2 : (i : Int) < (m : Int) := by omega
      obtain ⟨o, hio⟩ : ∃ o, l[i]? = some o := ⟨l[i]'(by rw [Hl.out]; exact hlt), by rw [List.getElem?_eq_getElem]⟩
      obtain ⟨hoc, how⟩ := HC.out i o hio
      have Hw := hide how
      obtain rfl := ha (by omega)
      have o0 := keepC HP.out.all (Nat.le_refl _) (hoc 0 _ rfl)
      have o1 := keepC HP.out.all (Nat.le_refl _) (hoc 1 _ rfl)
      have o2 := keepC HP.out.all (Nat.le_refl _) (hoc 2 _ rfl)
      have o3 := keepC HP.out.all (Nat.le_refl _) (hoc 3 _ rfl)
      clear hoc how hio ha
      rw [Nat.add_zero] at o0
      obtain ⟨kd, who, sl, nm⟩ := o
      simp only at o0 o1 o2 o3 Hw
      go_wp2_with fail
      have HP8 := hide (HP.out.up (below_new wr (.cells #[.int .i64 kd, .int .i64 who, .int .i64 sl, .string nm] 24)))
      have HO8 := hide (heap_last wr (.cells #[.int .i64 kd, .int .i64 who, .int .i64 sl, .string nm] 24))
      generalize wr.alloc (.cells #[.int .i64 kd, .int .i64 who, .int .i64 sl, .string nm] 24) = w8 at *
      generalize wr.heap.size = B at *
      clear o0 o1 o2 o3 HP
      go_loopw [9, 10, 36] (fun x n j wq => ∃ (k : Nat) (y : Int), x = .int .i64 y ∧ n = .int .i64 ((cnt nm (L.take k) : Nat) : Int) ∧ j = .int .i64 (k : Int) ∧ k ≤ L.length ∧ FdL L who k y ∧ PS w w1 P M ask L L (.slice av L.length cv) wq ∧ wq.heap[B]? = some (.cells #[.int .i64 kd, .int .i64 who, .int .i64 sl, .string nm] 24 (0, 0))) (fun _ _ j _ => L.length - (intOf j).toNat)
      case atStart => exact ⟨0, -1, rfl, by rw [List.take_zero]; rfl, rfl, Nat.zero_le _, FdL.zero _ _, HP8.out, HO8.out⟩
      case round =>
        clear HP8 HO8
        obtain ⟨k, y, rfl, rfl, rfl, hk, hfd, hP, hO⟩ := hrel
        have HP8 := hide hP
        have HO8 := hide hO
        have Hfd := hide hfd
        have q1 := blk_cell (i := 1) hO rfl
        have q3 := blk_cell (i := 3) hO rfl
        clear hP hO hfd
        by_cases hlk : k < L.length
        · have hex : ∃ u, L[k]? = some u := ⟨L[k], List.getElem?_eq_getElem hlk⟩
          obtain ⟨⟨xw, xs⟩, hku⟩ := hex
          have hBl := heap_lt HO8.out
          have d2 : decide ((k : Int) < (L.length : Int)) = true := by simpa using hlk
          have i3 : (0 : Int) ≤ (k : Int) := by omega
          have i4 : (k : Int) < (L.length : Int) := by omega
          obtain ⟨av', cv', gv', hv', -, -, hav', -, hcv'⟩ := HP8.out.own.form
          injection hv' with e1 e2 e3
          subst e1 e3
          obtain rfl := hav' (by omega)
          obtain ⟨c0, c1⟩ := hcv' k _ hku
          have HK := hide hku
          have HP9 := hide (HP8.out.up (below_new wr (.cells #[.int .i64 xw, .string xs] 30)))
          have HO9 := hide (heap_old HO8.out (.cells #[.int .i64 xw, .string xs] 30))
          have hct := cnt_take (nm := nm) hku
          have hcb : cnt nm (L.take k) ≤ k := Nat.le_trans List.countP_le_length (by rw [List.length_take]; omega)
          obtain ⟨n, hn⟩ : ∃ n, n = cnt nm (L.take k) := ⟨_, rfl⟩
          rw [← hn] at hct hcb ⊢
          simp only at c0 c1
          clear hcv' hku hav'
          cases hw : (xw == who) with
          | true =>
            have HF := hide (FdL.hit HK.out (show xw = who by simpa using hw))
            cases hs : (xs.toList == nm.toList) with
            | true =>
              rw [if_pos (show isIn nm (xw, xs) = true from hs)] at hct
              have hw1 : IntKind.i64.wrap ((n : Int) + 1) = (n : Int) + 1 := IntWalk.i64_in _ (by omega)
              have Hct := hide hct
              clear hct hn
              go_wp2
              go_roundw
              case rel => exact ⟨k + 1, (k : Int), rfl, by rw [Hct.out]; go_num, by go_num, by omega, HF.out, HP9.out, HO9.out⟩
              case measure => simp [intOf]; omega
            | false =>
              rw [if_neg (show ¬ isIn nm (xw, xs) = true by rw [show isIn nm (xw, xs) = false from hs]; simp)] at hct
              have Hct := hide hct
              clear hct hn
              go_wp2
              go_roundw
              case rel => exact ⟨k + 1, (k : Int), rfl, by rw [Hct.out]; rfl, by go_num, by omega, HF.out, HP9.out, HO9.out⟩
              case measure => simp [intOf]; omega
          | false =>
            have HF := hide (FdL.miss Hfd.out HK.out (show xw ≠ who by simpa using hw))
            cases hs : (xs.toList == nm.toList) with
            | true =>
              rw [if_pos (show isIn nm (xw, xs) = true from hs)] at hct
              have hw1 : IntKind.i64.wrap ((n : Int) + 1) = (n : Int) + 1 := IntWalk.i64_in _ (by omega)
              have Hct := hide hct
              clear hct hn
              go_wp2
              go_roundw
              case rel => exact ⟨k + 1, y, rfl, by rw [Hct.out]; go_num, by go_num, by omega, HF.out, HP9.out, HO9.out⟩
              case measure => simp [intOf]; omega
            | false =>
              rw [if_neg (show ¬ isIn nm (xw, xs) = true by rw [show isIn nm (xw, xs) = false from hs]; simp)] at hct
              have Hct := hide hct
              clear hct hn
              go_wp2
              go_roundw
              case rel => exact ⟨k + 1, y, rfl, by rw [Hct.out]; rfl, by go_num, by omega, HF.out, HP9.out, HO9.out⟩
              case measure => simp [intOf]; omega
        · obtain rfl : k = L.length := by omega
          have d2 : decide ((L.length : Int) < (L.length : Int)) = false := by simp
          have hdone := Hfd.out.done (Nat.le_refl _) HP8.out.lw.slots.once
          rw [List.take_length]
          have q0 := blk_cell (i := 0) HO8.out rfl
          have q2 := blk_cell (i := 2) HO8.out rfl
          obtain ⟨n, hn⟩ : ∃ n, n = cnt nm L := ⟨_, rfl⟩
          have hnl : n ≤ L.length := by rw [hn]; exact List.countP_le_length
          have HE := hide (fun (u : World) (L2 : List Sl) (hu : SlW u P M L2) (hl : L2.length ≤ 200) => enter_c P M L2 who nm ⟨#[]⟩ false sl 0 (.slice none 0 0) u hu Hw.out (by unfold maxLen; omega))
          have HV := hide (fun (u : World) (hu : SlW u P M L) => leave_c P M L who u hu Hw.out)
          rw [← hn]
          cases hk0 : (kd == 0) with
          | true =>
            rcases hdone with ⟨rfl, hpl⟩ | ⟨x, u, rfl, hxu, hue, hpl, -⟩
            · by_cases hq : sl ≤ (n : Int)
              · have e : enterF L who nm sl = (150, L) := by unfold enterF; rw [if_neg (by rw [hpl]; simp), if_pos (by rw [← hn]; exact hq)]
                have dq : decide (sl ≤ (n : Int)) = true := by simpa using hq
                have HE1 := hide (HE.out wr L HP8.out.lw.slots (by omega))
                rw [e] at HE1
                have HQ := hide HP8.out
                clear e hpl hq hn HE HV Hfd
                go_wp2_with fail
                refine HE1.out.mono ?_
                rintro e wz ⟨rfl, hsz2, hgz⟩
                have HZ := hide (HQ.out.turn hsz2 hgz)
                clear hsz2 hgz HQ HP8 HO8
                simp only at HZ
                go_wp2_with fail
                refine (len_c P M _ wz HZ.out.lw.slots).mono ?_
                rintro e wy ⟨rfl, rfl⟩
                go_wp2
                go_roundw
                case rel => exact ⟨i + 1, _, by go_num, by omega, by omega, HZ.out⟩
                case measure => simp [intOf]; omega
              · have e : enterF L who nm sl = (0, L ++ [(who, nm)]) := by unfold enterF; rw [if_neg (by rw [hpl]; simp), if_neg (by rw [← hn]; exact hq)]
                have dq : decide (sl ≤ (n : Int)) = false := by simpa using hq
                have HE2 := hide (fun (u : World) (hu : SlW u P M L) => HE.out u L hu (by omega))
                rw [e] at HE2
                have HQ := hide (HP8.out.up (below_new wr (.cells #[.int .i64 who, .string nm] 30)))
                have HN := hide (heap_last wr (.cells #[.int .i64 who, .string nm] 30))
                have HO9 := hide (heap_old HO8.out (.cells #[.int .i64 who, .string nm] 30))
                clear e hpl hq hn HE HV Hfd HP8
                go_wp2_with (refine wpList_app rfl (.tmp 64) (.tmp 70) rfl (.slice av L.length cv) w1.heap.size L [(who, nm)] ⟨wr.heap.size, 0, none⟩ 1 rfl rfl ?_ ?_ ?_ ?_ ?_)
                · exact HQ.out.own
                · exact HQ.out.lw.below.size
                · intro j z hz
                  rw [Addr.add_mid, Nat.zero_add]
                  exact blk_cell HN.out (by simpa [rowI, inC] using hz)
                · simp
                  omega
                intro v3 w3 ho3 hg3
                refine un ?_
                have HQ3 := hide (HQ.out.app ho3.out hg3.out)
                have HO3 := hide ((hg3.out.block B (heap_lt HO9.out) (own_ne (g := 0) HQ.out.own HO9.out (by decide))).trans HO9.out)
                obtain ⟨a3, c3, g3, rfl, -, -, -, -, -⟩ := HQ3.out.own.form
                have hl3 : (L ++ [(who, nm)]).length = L.length + 1 := by rw [List.length_append, List.length_singleton]
                rw [hl3] at HQ3 ⊢
                clear ho3 hg3 HQ HN HO9 HO8
                have p1 := blk_cell (i := 1) HO3.out rfl
                have p2 := blk_cell (i := 2) HO3.out rfl
                have p3 := blk_cell (i := 3) HO3.out rfl
                go_wp2_with fail
                refine (HE2.out w3 HQ3.out.lw.slots).mono ?_
                rintro e wz ⟨rfl, hsz2, hgz⟩
                have HZ := hide (HQ3.out.turn hsz2 hgz)
                clear hsz2 hgz HQ3 HO3 p1 p2 p3
                simp only at HZ
                go_wp2_with fail
                refine (len_c P M _ wz HZ.out.lw.slots).mono ?_
                rintro e wy ⟨rfl, rfl⟩
                rw [hl3]
                go_wp2
                go_roundw
                case rel => exact ⟨i + 1, L ++ [(who, nm)], by go_num, by omega, by omega, HZ.out⟩
                case measure => simp [intOf]; omega
            · have e : enterF L who nm sl = (5, L) := by unfold enterF; rw [if_pos hpl]
              have HE1 := hide (HE.out wr L HP8.out.lw.slots (by omega))
              rw [e] at HE1
              have HQ := hide HP8.out
              clear e hpl hn HE HV Hfd hxu
              go_wp2_with fail
              refine HE1.out.mono ?_
              rintro e wz ⟨rfl, hsz2, hgz⟩
              have HZ := hide (HQ.out.turn hsz2 hgz)
              clear hsz2 hgz HQ HP8 HO8
              simp only at HZ
              go_wp2_with fail
              refine (len_c P M _ wz HZ.out.lw.slots).mono ?_
              rintro e wy ⟨rfl, rfl⟩
              go_wp2
              go_roundw
              case rel => exact ⟨i + 1, _, by go_num, by omega, by omega, HZ.out⟩
              case measure => simp [intOf]; omega
          | false =>
            rcases hdone with ⟨rfl, hpl⟩ | ⟨x, u, rfl, hxu, hue, hpl, hfil⟩
            · have e : leaveF L who = (4, L) := by unfold leaveF; rw [if_neg (by rw [hpl]; simp)]
              have HE1 := hide (HV.out wr HP8.out.lw.slots)
              rw [e] at HE1
              have HQ := hide HP8.out
              clear e hpl hn HE HV Hfd
              go_wp2_with fail
              refine HE1.out.mono ?_
              rintro e wz ⟨rfl, hsz2, hgz⟩
              have HZ := hide (HQ.out.turn hsz2 hgz)
              clear hsz2 hgz HQ HP8 HO8
              simp only at HZ
              go_wp2_with fail
              refine (len_c P M _ wz HZ.out.lw.slots).mono ?_
              rintro e wy ⟨rfl, rfl⟩
              go_wp2
              go_roundw
              case rel => exact ⟨i + 1, _, by go_num, by omega, by omega, HZ.out⟩
              case measure => simp [intOf]; omega
            · have e : leaveF L who = (0, L.take x ++ L.drop (x + 1)) := by unfold leaveF; rw [if_pos hpl, hfil]
              have HE2 := hide HV.out
              rw [e] at HE2
              have hxl : x < L.length := (List.getElem?_eq_some_iff.1 hxu).1
              have hlG : (L.take x ++ L.drop (x + 1)).length = L.length - 1 := by rw [List.length_append, List.length_take, List.length_drop]; omega
              obtain ⟨av', cv', gv', hv', hfit', hmax', hav', hrow', -⟩ := HP8.out.own.form
              injection hv' with e1 e2 e3
              subst e1 e3
              obtain rfl := hav' (by omega)
              obtain ⟨A2, hA2⟩ : ∃ A2 : Addr, A2 = if cv = x + 1 then ⟨gv', 0, none⟩ else ⟨gv', (x + 1) * 2, none⟩ := ⟨_, rfl⟩
              have HR1 : Hid (∀ (u : World), Below wr.heap.size wr u → ∀ j z, (rowI (L.take x))[j]? = some z → u.cell? ((Addr.mk gv' 0 none).add j) = some z) := hide (fun u hu j z hz => by
                rw [Addr.add_mid, Nat.zero_add]
                refine keepC hu (Nat.le_refl _) (hrow' j z ?_)
                have e : rowI L = rowI (L.take x) ++ rowI (L.drop x) := by rw [← rowI_append, List.take_append_drop]
                rw [e, List.getElem?_append_left (List.getElem?_eq_some_iff.1 hz).1]
                exact hz)
              have HR2 : Hid (∀ (u : World), Below wr.heap.size wr u → ∀ j z, (rowI (L.drop (x + 1)))[j]? = some z → u.cell? (A2.add j) = some z) := hide (fun u hu j z hz => by
                have hj := (List.getElem?_eq_some_iff.1 hz).1
                rw [rowI_length, List.length_drop] at hj
                rw [hA2, if_neg (by omega), Addr.add_mid]
                refine keepC hu (Nat.le_refl _) (hrow' _ z ?_)
                rw [← rowI_drop L (x + 1) (by omega), List.getElem?_drop] at hz
                exact hz)
              have HA := hide hA2
              have HG := hide hlG
              have HQ := hide HP8.out
              have j0 : (0 : Int) ≤ (x : Int) + 1 := by omega
              have j1 : (0 : Int) ≤ (x : Int) := by omega
              have j2 : (x : Int) ≤ (cv : Int) := by omega
              have j3 : (x : Int) + 1 ≤ (L.length : Int) := by omega
              have hwx : IntKind.i64.wrap ((x : Int) + 1) = (x : Int) + 1 := IntWalk.i64_in _ (by omega)
              clear e hpl hn HE HV Hfd HP8 hfil hue hxu hrow' hav' hA2 hlG
              go_wp2_with fail
              refine wp_region_g (T31 wr (L.take x) (L.take x ++ L.drop (x + 1))) [none, some (some (.slice (some ⟨gv', 0, none⟩) L.length cv)), some (some (.int .i64 (x : Int))), some (some (.slice (some ⟨gv', 0, none⟩) x cv)), none, some (some (.slice (some ⟨gv', 0, none⟩) L.length cv)), some (some (.int .i64 (x : Int))), some (some (.int .i64 ((x : Int) + 1))), some (some (.slice (some A2) (L.length - (x + 1)) (cv - (x + 1)))), none, some none] (by kernel_rfl) (by kernel_rfl) [0, 4, 9] [0, 4, 9, 10] (by rfl) (by rfl) (by kernel_rfl) ⟨⟨rfl, rfl, rfl, Nat.le_refl _, fun _ _ => rfl⟩, fun h => by simp at h, fun h => by simp at h, fun h => by simp at h⟩ ?_
              refine gD_step (fun v => ∃ a n c, v = .slice a n c) ⟨_, none, 0, 0, rfl⟩ (by rfl) (fun u K hT hK => ?_) (fun v1 hv1 => ?_)
              · go_simp
                have hb := below_new u (.cells #[] 30)
                refine hK _ _ ⟨_, _, _, rfl⟩ ⟨keepB hb (Nat.le_refl _) hT.below, fun _ v hv => ?_, fun h => by simp at h, fun h => by simp at h⟩
                simp at hv
                subst hv
                exact ⟨rfl, .inr ⟨u.heap.size, 0, #[], rfl, hT.below.size, heap_last _ _, Nat.le_refl _, by simp [maxLen], rfl, rfl⟩⟩
              obtain ⟨b1, n1, c1, rfl⟩ := hv1
              simp only [Act.put, List.setIfInBounds_toArray, List.set_cons_zero, List.set_cons_succ]
              iterate 3
                (refine gF_step (by rfl) (fun h u K hT hK => ?_) ?_
                 · go_simp
                   exact hK _ hT
                 simp only [Act.put, List.setIfInBounds_toArray, List.set_cons_zero, List.set_cons_succ])
              refine gD_step (fun v => ∃ a n c, v = .slice a n c) ⟨_, none, 0, 0, rfl⟩ (by rfl) (fun u K hT hK => ?_) (fun v2 hv2 => ?_)
              · have h0 := hT.one rfl _ rfl
                obtain ⟨v', w', hrun, h1, h2, -⟩ := append_at u 28 _ wr.heap.size [] (L.take x) ⟨gv', 0, none⟩ cv h0 hT.below.size (HR1.out u hT.below) (by rw [List.length_take]; simp; omega)
                have hl : (L.take x).length = x := by rw [List.length_take]; omega
                rw [hl] at hrun
                refine kUpon_app (.tmp 85) (.tmp 88) rfl hrun (hK _ _ ?_ ⟨hT.below.trans (own_below h0 h2 hT.below.size), fun h => by simp at h, fun _ v hv => ?_, fun h => by simp at h⟩)
                · obtain ⟨a, cap, _, e, _⟩ := h1.form
                  exact ⟨_, _, _, e⟩
                · simp at hv
                  subst hv
                  exact h1
              obtain ⟨b2, n2, c2, rfl⟩ := hv2
              simp only [Act.put, List.setIfInBounds_toArray, List.set_cons_zero, List.set_cons_succ]
              iterate 3
                (refine gF_step (by rfl) (fun h u K hT hK => ?_) ?_
                 · go_simp
                   exact hK _ hT
                 simp only [Act.put, List.setIfInBounds_toArray, List.set_cons_zero, List.set_cons_succ])
              refine gF_step (by rfl) (fun h u K hT hK => ?_) ?_
              · go_simp
                have e : (if cv = x + 1 then some (Addr.mk gv' 0 none) else some (Addr.mk gv' ((x + 1) * 2) none)) = some A2 := by rw [HA.out]; split <;> rfl
                rw [e]
                exact hK _ hT
              simp only [Act.put, List.setIfInBounds_toArray, List.set_cons_zero, List.set_cons_succ]
              refine gD_step (fun v => True) ⟨undef, trivial⟩ (by rfl) (fun u K hT hK => ?_) (fun v3 hv3 => ?_)
              · have h0 := hT.two rfl _ rfl
                obtain ⟨v', w', hrun, h1, h2, -⟩ := append_at u 28 _ wr.heap.size (L.take x) (L.drop (x + 1)) A2 (cv - (x + 1)) h0 hT.below.size (HR2.out u hT.below) (by rw [List.length_take, List.length_drop]; omega)
                rw [List.length_drop] at hrun
                refine kUpon_app (.tmp 89) (.tmp 93) rfl hrun (hK _ _ trivial ⟨hT.below.trans (own_below h0 h2 hT.below.size), fun h => by simp at h, fun h => by simp at h, fun _ v hv => ?_⟩)
                simp at hv
                subst hv
                exact h1
              simp only [Act.put, List.setIfInBounds_toArray, List.set_cons_zero, List.set_cons_succ]
              refine gG_step (v := v3) (by rfl) (fun h' u K hT hK => ?_) ?_
              · go_simp
                exact hK _ hT
              simp only [Act.put, List.setIfInBounds_toArray, List.set_cons_zero, List.set_cons_succ]
              refine g_nil (fun w3 hT => ?_)
              have hsw : w1.heap.size ≤ wr.heap.size := HQ.out.lw.below.size
              have ho3 := OwnI.less (hT.three rfl v3 rfl) hsw
              have HQ3 := hide (HQ.out.new hT.below ho3)
              have HO3 := hide (below_blk hT.below (heap_lt HO8.out) HO8.out)
              obtain ⟨a3, c3, g3, rfl, -, -, -, -, -⟩ := HQ3.out.own.form
              obtain ⟨nl, hnl2⟩ : ∃ nl, nl = (L.take x ++ L.drop (x + 1)).length := ⟨_, rfl⟩
              rw [← hnl2] at HQ3 ⊢
              have hnl3 : nl ≤ i := by rw [hnl2, HG.out]; omega
              have HNl := hide hnl2
              clear ho3 hT HQ HO8 HR1 HR2 hnl2 hsw
              have p1 := blk_cell (i := 1) HO3.out rfl
              go_wp2_with fail
              refine (HE2.out w3 HQ3.out.lw.slots).mono ?_
              rintro e wz ⟨rfl, hsz2, hgz⟩
              have HZ := hide (HQ3.out.turn hsz2 hgz)
              clear hsz2 hgz HQ3 HO3 p1
              simp only at HZ
              go_wp2_with fail
              refine (len_c P M _ wz HZ.out.lw.slots).mono ?_
              rintro e wy ⟨rfl, rfl⟩
              rw [← HNl.out]
              go_wp2
              go_roundw
              case rel => exact ⟨i + 1, L.take x ++ L.drop (x + 1), by go_num, by omega, by rw [← HNl.out]; omega, HZ.out⟩
              case measure => simp [intOf]; omega
    · obtain rfl : i = m := by omega
      have d1 : decide ((i : Int) < (i : Int)) = false := by simp
      clear HCv HRow hLn
      go_wp2_with fail
      go_loopw [15, 16, 17, 109] (fun n s b j wq => ∃ (k : Nat) (x : ByteArray) (z : Bool), n = .int .i64 ((cnt ask.nm (L.take k) : Nat) : Int) ∧ s = .string x ∧ b = .bool z ∧ j = .int .i64 (k : Int) ∧ k ≤ L.length ∧ WhL L ask.who k x z ∧ PS w w1 P M ask L L (.slice av L.length cv) wq) (fun _ _ _ j _ => L.length - (intOf j).toNat)
      case atStart => exact ⟨0, ⟨#[]⟩, false, by rw [List.take_zero]; rfl, rfl, rfl, rfl, Nat.zero_le _, WhL.zero _ _, HP.out⟩
      case round =>
        clear HP
        obtain ⟨k, x, z, rfl, rfl, rfl, rfl, hk, hwh, hP⟩ := hrel
        have HP8 := hide hP
        have HWh := hide hwh
        have q1 := blk_cell (i := 1) hP.obj rfl
        have q3 := blk_cell (i := 3) hP.obj rfl
        have hXl := heap_lt hP.obj
        clear hP hwh
        by_cases hlk : k < L.length
        · have hex : ∃ u, L[k]? = some u := ⟨L[k], List.getElem?_eq_getElem hlk⟩
          obtain ⟨⟨xw, xs⟩, hku⟩ := hex
          have d2 : decide ((k : Int) < (L.length : Int)) = true := by simpa using hlk
          have i3 : (0 : Int) ≤ (k : Int) := by omega
          have i4 : (k : Int) < (L.length : Int) := by omega
          obtain ⟨av', cv', gv', hv', -, -, hav', -, hcv'⟩ := HP8.out.own.form
          injection hv' with e1 e2 e3
          subst e1 e3
          obtain rfl := hav' (by omega)
          obtain ⟨c0, c1⟩ := hcv' k _ hku
          have HK := hide hku
          have HP9 := hide (HP8.out.up (below_new wr (.cells #[.int .i64 xw, .string xs] 30)))
          have hct := cnt_take (nm := ask.nm) hku
          have hcb : cnt ask.nm (L.take k) ≤ k := Nat.le_trans List.countP_le_length (by rw [List.length_take]; omega)
          obtain ⟨n, hn⟩ : ∃ n, n = cnt ask.nm (L.take k) := ⟨_, rfl⟩
          rw [← hn] at hct hcb ⊢
          simp only at c0 c1
          clear hcv' hku hav' hn
          cases hs : (xs.toList == ask.nm.toList) with
          | true =>
            rw [if_pos (show isIn ask.nm (xw, xs) = true from hs)] at hct
            have hw1 : IntKind.i64.wrap ((n : Int) + 1) = (n : Int) + 1 := IntWalk.i64_in _ (by omega)
            have Hct := hide hct
            clear hct
            cases hw : (xw == ask.who) with
            | true =>
              have HF := hide (WhL.hit HK.out (show xw = ask.who by simpa using hw))
              go_wp2
              go_roundw
              case rel => exact ⟨k + 1, xs, true, by rw [Hct.out]; go_num, rfl, rfl, by go_num, by omega, HF.out, HP9.out⟩
              case measure => simp [intOf]; omega
            | false =>
              have HF := hide (WhL.miss HWh.out HK.out (show xw ≠ ask.who by simpa using hw))
              go_wp2
              go_roundw
              case rel => exact ⟨k + 1, x, z, by rw [Hct.out]; go_num, rfl, rfl, by go_num, by omega, HF.out, HP9.out⟩
              case measure => simp [intOf]; omega
          | false =>
            rw [if_neg (show ¬ isIn ask.nm (xw, xs) = true by rw [show isIn ask.nm (xw, xs) = false from hs]; simp)] at hct
            have Hct := hide hct
            clear hct
            cases hw : (xw == ask.who) with
            | true =>
              have HF := hide (WhL.hit HK.out (show xw = ask.who by simpa using hw))
              go_wp2
              go_roundw
              case rel => exact ⟨k + 1, xs, true, by rw [Hct.out]; rfl, rfl, rfl, by go_num, by omega, HF.out, HP9.out⟩
              case measure => simp [intOf]; omega
            | false =>
              have HF := hide (WhL.miss HWh.out HK.out (show xw ≠ ask.who by simpa using hw))
              go_wp2
              go_roundw
              case rel => exact ⟨k + 1, x, z, by rw [Hct.out]; rfl, rfl, rfl, by go_num, by omega, HF.out, HP9.out⟩
              case measure => simp [intOf]; omega
        · obtain rfl : k = L.length := by omega
          have d2 : decide ((L.length : Int) < (L.length : Int)) = false := by simp
          have hin := HWh.out.done (Nat.le_refl _) HP8.out.lw.slots.once
          have HC1 := hide (in_c P M L ask.who wr HP8.out.lw.slots Hask.out)
          rw [hin] at HC1
          have HC2 := hide (fun (u : World) (hu : SlW u P M L) => count_c P M L ask.nm u hu)
          rw [List.take_length]
          obtain ⟨n, hn⟩ : ∃ n, n = cnt ask.nm L := ⟨_, rfl⟩
          rw [← hn] at HC2 ⊢
          have hss : (x.toList == x.toList) = true := by simp
          clear hin hn HWh
          go_wp2_with fail
          refine HC1.out.mono ?_
          rintro e w4 ⟨rfl, hb⟩
          have HP9 := hide (HP8.out.up hb)
          clear hb HC1 HP8 q1 q3
          have q3 := blk_cell (i := 3) HP9.out.obj rfl
          go_wp2_with fail
          refine (HC2.out w4 HP9.out.lw.slots).mono ?_
          rintro e w5 ⟨rfl, hb⟩
          have HB := hide (HP9.out.up hb).all
          clear hb HP9 HC2 q3
          go_wp2
          go_ret
          exact ⟨rfl, HB.out⟩
theorem walk_any (a : Option Addr) (m c : Nat) (ask : OpT) (w : World) (ho : IsOps w a m c) (hask : (Lit.int .i64 ask.who).wf = true) :
    Calls Try.prog 3 #[.slice a m c, .agg #[.int .i64 ask.k, .int .i64 ask.who, .int .i64 ask.sl, .string ask.nm]] w fun e w' => e = .returned (.bool true) ∧ Below w.heap.size w w' := by
  by_cases hg : 200 < m
  · exact out_walk a m c ask w hg
  · obtain ⟨l, hl, -, -, g, off, ha, hcell⟩ := ho
    exact in_walk a m c l ask w hl (by omega) g off ha hcell hask
end Go.Proofs.Ytlhjkacdhfchiaa.SlotPlaysW
