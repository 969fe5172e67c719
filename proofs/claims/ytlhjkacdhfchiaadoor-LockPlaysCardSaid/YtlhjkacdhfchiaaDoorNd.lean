/- Reference 12: Release. -/
import Derived.Test.YtlhjkacdhfchiaaDoorNc
import Derived.Test.YtlhjkacdhfchiaaDoorLx
import Derived.Deep.CutBlock
import Derived.Deep.DeepCutAuto
namespace Go.Proofs.YtlhjkacdhfchiaaDoor.Nd
set_option linter.unusedVariables false
set_option linter.unusedSimpArgs false
set_option maxRecDepth 100000
open Go.ChangeShapes Go.WideShapes Go.ChangeAt Go.RowKit
open Go.Proofs.YtlhjkacdhfchiaaDoor.Wu Go.Proofs.YtlhjkacdhfchiaaDoor.Rk Go.Proofs.YtlhjkacdhfchiaaDoor.Pm Go.Proofs.YtlhjkacdhfchiaaDoor.Ps Go.Proofs.YtlhjkacdhfchiaaDoor.Pu Go.Proofs.YtlhjkacdhfchiaaDoor.Pv Go.Proofs.YtlhjkacdhfchiaaDoor.Px Go.Proofs.YtlhjkacdhfchiaaDoor.Pra Go.Proofs.YtlhjkacdhfchiaaDoor.La Go.Proofs.YtlhjkacdhfchiaaDoor.Lb Go.Proofs.YtlhjkacdhfchiaaDoor.Lc Go.Proofs.YtlhjkacdhfchiaaDoor.Ld Go.Proofs.YtlhjkacdhfchiaaDoor.Le Go.Proofs.YtlhjkacdhfchiaaDoor.Lf Go.Proofs.YtlhjkacdhfchiaaDoor.Lg Go.Proofs.YtlhjkacdhfchiaaDoor.Lh Go.Proofs.YtlhjkacdhfchiaaDoor.Li Go.Proofs.YtlhjkacdhfchiaaDoor.Lk Go.Proofs.YtlhjkacdhfchiaaDoor.Lu Go.Proofs.YtlhjkacdhfchiaaDoor.Lv Go.Proofs.YtlhjkacdhfchiaaDoor.Lx Go.Proofs.YtlhjkacdhfchiaaDoor.Na Go.Proofs.YtlhjkacdhfchiaaDoor.Nb Go.Proofs.YtlhjkacdhfchiaaDoor.Nc
open Go.Proofs.YtlhjkacdhfchiaaDoor.Ba (of_hid)
attribute [local go_sem] kUpon_value kUpon_skip kUpon_enter
/-- Free before, given free now: but for the one that goes. -/
theorem free_two {L : List Wh} {i : Nat} {x : Wh} (hx : L[i]? = some x) {k : Nat} {y : Wh} (hy : (cut L i)[k]? = some y) (hf : freeL (cut L i) k = true) :
    freeL L (if k < i then k else k + 1) = (decide (k < i) || !(way y.2 x.2)) := by
  obtain ⟨hi, hxe⟩ := List.getElem?_eq_some_iff.1 hx
  have hf2 := (freeL_iff hy).1 hf
  rw [cut_at hi] at hy
  by_cases hk : k < i
  · rw [if_pos hk] at hy ⊢
    rw [decide_eq_true hk, Bool.true_or, freeL_iff hy]
    intro q z hq hz
    exact hf2 q z hq (by rw [cut_at hi, if_pos (by omega)]; exact hz)
  · rw [if_neg hk] at hy ⊢
    rw [decide_eq_false hk, Bool.false_or]
    cases hw : way y.2 x.2 with
    | true =>
      cases hfl : freeL L (k + 1) with
      | false => rfl
      | true =>
        have := (freeL_iff hy).1 hfl i x (by omega) hx
        rw [hw] at this
        cases this
    | false =>
      show freeL L (k + 1) = true
      rw [freeL_iff hy]
      intro q z hq hz
      by_cases hqi : q = i
      · subst hqi
        rw [hx] at hz
        injection hz with hz
        rw [← hz]; exact hw
      · by_cases hlt : q < i
        · exact hf2 q z (by omega) (by rw [cut_at hi, if_pos hlt]; exact hz)
        · exact hf2 (q - 1) z (by omega) (by rw [cut_at hi, if_neg (by omega), show q - 1 + 1 = q by omega]; exact hz)
theorem nx_at {L : List Wh} {i : Nat} {x : Wh} (hx : L[i]? = some x) {k : Nat} {y : Wh} (hy : (cut L i)[k]? = some y) :
    nx (cut L i) x.2 i (k + 1 - i) = nx (cut L i) x.2 i (k - i) ++ (if freeL (cut L i) k && !(freeL L (if k < i then k else k + 1)) then [y.1] else []) := by
  cases hf : freeL (cut L i) k with
  | false =>
    rw [Bool.false_and]
    by_cases hk : k < i
    · rw [show k + 1 - i = 0 by omega, show k - i = 0 by omega]; simp [nx]
    · rw [show k + 1 - i = (k - i) + 1 by omega, nx, show i + (k - i) = k by omega, hy, hf]
      simp
  | true =>
    rw [free_two hx hy hf]
    by_cases hk : k < i
    · rw [show k + 1 - i = 0 by omega, show k - i = 0 by omega, decide_eq_true hk]; simp [nx]
    · rw [show k + 1 - i = (k - i) + 1 by omega, nx, show i + (k - i) = k by omega, hy, hf, decide_eq_false hk]
      cases hw : way y.2 x.2 <;> simp [hw]
theorem cut_find {L : List Wh} (ho : Once L) {i k : Nat} {y : Wh} (hi : i < L.length) (hy : (cut L i)[k]? = some y) : placeL L y.1 = ((if k < i then k else k + 1 : Nat) : Int) ∧ (if k < i then k else k + 1) < L.length := by
  have hy2 : L[if k < i then k else k + 1]? = some y := by
    rw [cut_at hi] at hy
    split at hy <;> rename_i h
    · rw [if_pos h]; exact hy
    · rw [if_neg h]; exact hy
  have := find_at ho hy2
  exact placeL_some this
theorem RkA.same {w w' : World} {N : Nat} {v : Value} {us : List La.Ask} {L : List Wh} (h : RkA w N v us L) (hk : ∀ (k : Nat) (c : Array Value) (T : TypeId) (f : Nat × Nat), w.heap[k]? = some (Obj.cells c T f) → T ≠ 3 → w'.heap[k]? = w.heap[k]?) : RkA w' N v us L :=
  ⟨h.own.same fun g hg => by
    obtain ⟨_, c, f, hc⟩ := h.own.blk hg
    exact hk g _ _ _ hc (by decide), h.len, fun i u x h1 h2 => ⟨(h.each i u x h1 h2).1, (h.each i u x h1 h2).2.same fun g hg => by
    obtain ⟨_, c, f, hc⟩ := Li.OwnS.blk (h.each i u x h1 h2).2 hg
    exact hk g _ _ _ hc (by decide)⟩, h.few, h.short⟩
/-- What is left of a slice of asks, from the k-th on. -/
theorem IsAs.drop {w : World} {g m c : Nat} {us : List La.Ask} (h : IsAs w (some ⟨g, 0, none⟩) m c us) {k : Nat} (hk : k ≤ m) : IsAs w (some (if c = k then ⟨g, 0, none⟩ else ⟨g, k * 2, none⟩)) (us.drop k).length (c - k) (us.drop k) := by
  obtain ⟨h1, h2, h3, g', off, h4, h5⟩ := h
  refine ⟨rfl, by rw [List.length_drop]; omega, by omega, g, k * 2, fun h => ?_, fun i u hi => ?_⟩
  · rw [List.length_drop] at h
    rw [if_neg (by omega)]
  · have hl := (List.getElem?_eq_some_iff.1 hi).1
    rw [List.length_drop] at hl
    rw [List.getElem?_drop] at hi
    have e := h4 (by omega)
    injection e with e
    injection e with e1 e2
    subst e1 e2
    obtain ⟨a1, a2⟩ := h5 _ u hi
    rw [Nat.zero_add, show (k + i) * 2 = k * 2 + i * 2 by omega] at a1 a2
    exact ⟨a1, a2⟩
/-- What Release answers. -/
def RRelR (w : World) (N : Nat) (v : Value) (L : List Wh) (who : Int) (e : Ending) (w' : World) : Prop := (match L.findIdx? (whoIs who) with
  | some i => ∃ v' n' x, L[i]? = some x ∧ e = .returned (.tuple #[v', n', .int .i64 0]) ∧ RkW w' N v' (cut L i) ∧ OwnN w' w.heap.size n' (nx (cut L i) x.2 i (L.length - 1 - i))
  | none => e = .returned (.tuple #[v, .slice none 0 0, .int .i64 4])) ∧ Below w.heap.size w w'
theorem RkW.who {w : World} {N n c : Nat} {a : Option Addr} {L : List Wh} (h : RkW w N (.slice a n c) L) {k : Nat} {y : Wh} (hy : L[k]? = some y) : ∃ g, a = some ⟨g, 0, none⟩ ∧ w.cell? ⟨g, k * 2, none⟩ = some (.int .i64 y.1) := by
  obtain ⟨us, h⟩ := h
  obtain ⟨a', c', e, hI, hnone, hsome⟩ := h.own.is
  injection e with e1 e2 e3
  subst e1
  have hkL := (List.getElem?_eq_some_iff.1 hy).1
  have hk : k < us.length := by rw [h.len]; exact hkL
  obtain ⟨-, -, -, g, off, ha, hc⟩ := hI
  have ha := ha (by omega)
  obtain ⟨g2, e4⟩ := hsome _ ha
  injection e4 with e4 e5
  subst e4 e5
  have hu := List.getElem?_eq_getElem hk
  obtain ⟨c0, -⟩ := hc k _ hu
  rw [Nat.zero_add, (h.each k _ y hu hy).1] at c0
  exact ⟨g, ha, c0⟩
theorem RkW.below {w w' : World} {N : Nat} {v : Value} {L : List Wh} (h : RkW w N v L) (hb : Below w.heap.size w w') : RkW w' N v L := by
  obtain ⟨us, h⟩ := h
  exact ⟨us, h.below hb⟩
theorem RkW.grown {w w' : World} {N B : Nat} {v nv : Value} {L : List Wh} {zs : List Int} (h : RkW w N v L) (ho : OwnN w B nv zs) (hg : w.grownBy w' nv.ownBlock) : RkW w' N v L := by
  obtain ⟨us, h⟩ := h
  exact ⟨us, RkA.same h fun k c T f hc hT => hg.block k (heap_lt hc) (fun e => by
    obtain ⟨_, c2, f2, h2⟩ := ho.blk e.symm
    rw [hc] at h2
    injection h2 with h2
    injection h2 with _ h2 _
    exact hT h2)⟩
set_option maxHeartbeats 6400000 in
theorem rrel_c {w : World} {N : Nat} {v : Value} {L : List Wh} (h : RkW w N v L) (hN : N ≤ w.heap.size) (ho : Once L) (who : Int) :
    Calls Tryd.prog 24 #[v, .int .i64 who] w (RRelR w N v L who) := by
  have HF := hide (rfind_l h who)
  obtain ⟨us, hA⟩ := h
  obtain ⟨av, cv, rfl, hI, hnone, hsome⟩ := hA.own.is
  have HA := hide hA
  have HI := hide hI
  have Husl := hide hA.len
  have hub0 : us.length ≤ 64 := by rw [hA.len]; exact hA.few
  have hI3 := hI.2.1
  have hI4 := hI.2.2.1
  have HO := hide ho
  cases hf : L.findIdx? (whoIs who) with
  | none =>
    rw [placeL_none hf] at HF
    have HR : Hid (RRelR w N (.slice av us.length cv) L who (.returned (.tuple #[.slice av us.length cv, .slice none 0 0, .int .i64 4])) w) := hide (by
      unfold RRelR
      rw [hf]
      exact ⟨rfl, Below.refl _ _⟩)
    generalize RRelR w N (.slice av us.length cv) L who = R at *
    clear hA hI hf ho hnone hsome
    go_enter Tryd.func24, Tryd.ntmps24
    go_wp2_with fail
    refine HF.out.mono ?_
    rintro e w1 ⟨rfl, rfl⟩
    go_wp2
    refine ⟨rfl, _, results_tmp3 rfl _ _ _, ?_⟩
    exact HR.out
  | some i =>
    obtain ⟨e1, hiL⟩ := placeL_some hf
    rw [e1] at HF
    have hiu : i < us.length := by rw [hA.len]; exact hiL
    have hav : ∃ g, av = some ⟨g, 0, none⟩ := by
      cases hv : av with
      | none =>
        have := (hnone hv).1
        rw [this] at hiu
        exact absurd hiu (Nat.not_lt_zero _)
      | some ad =>
        obtain ⟨g, e⟩ := hsome ad hv
        exact ⟨g, by rw [e]⟩
    obtain ⟨g, rfl⟩ := hav
    have hx : L[i]? = some L[i] := List.getElem?_eq_getElem hiL
    obtain ⟨x, hxx⟩ : ∃ x, x = L[i] := ⟨_, rfl⟩
    rw [← hxx] at hx
    have HX := hide hx
    have HR : Hid (∀ w' v' n', RkW w' N v' (cut L i) → OwnN w' w.heap.size n' (nx (cut L i) x.2 i (L.length - 1 - i)) → Below w.heap.size w w' → RRelR w N (.slice (some ⟨g, 0, none⟩) us.length cv) L who (.returned (.tuple #[v', n', .int .i64 0])) w') := hide (fun w' v' n' k1 k2 k3 => by
      unfold RRelR
      rw [hf]
      exact ⟨⟨v', n', x, HX.out, rfl, k1, k2⟩, k3⟩)
    generalize RRelR w N (.slice (some ⟨g, 0, none⟩) us.length cv) L who = R at *
    have HiL := hide hiL
    have hb3 := below_new w (.cells #[] 58)
    have HB3 := hide hb3
    have HR3 := hide (OwnR.fresh w)
    have HI3 := hide (hI.below hb3)
    have hBl := hb3.size
    have d0 : decide ((i : Int) < 0) = false := decide_eq_false (by omega)
    have d1 : (0 : Int) ≤ (i : Int) := by omega
    have d2 : (i : Int) ≤ (cv : Int) := by omega
    have d3 : (0 : Int) ≤ (i : Int) + 1 := by omega
    have d4 : (i : Int) + 1 ≤ (us.length : Int) := by omega
    have hwx : IntKind.i64.wrap ((i : Int) + 1) = (i : Int) + 1 := IntWalk.i64_in _ (by omega)
    clear hA hI hf ho hnone hsome hxx hx hiL e1 hb3
    go_enter Tryd.func24, Tryd.ntmps24
    go_wp2_with fail
    refine HF.out.mono ?_
    rintro e w1 ⟨rfl, rfl⟩
    go_wp2_with (refine wpList_appR rfl (.tmp 17) (.tmp 20) rfl (.slice (some ⟨w1.heap.size, 0, none⟩) 0 0) (.slice (some ⟨g, 0, none⟩) i cv) w1.heap.size ([] ++ us.take i) rfl rfl (by
      have ht := IsAs.take HI3.out (Nat.le_of_lt hiu)
      have hl : (us.take i).length = i := by rw [List.length_take]; omega
      have := append_asks (w1.alloc (.cells #[] 58)) 51 (.slice (some ⟨w1.heap.size, 0, none⟩) 0 0) w1.heap.size [] (us.take i) (some ⟨g, 0, none⟩) cv HR3.out hBl (by rw [hl]; exact ht) (fun e => by cases e) (by rw [hl]; show 0 + i ≤ 1000000; omega)
      rw [hl] at this
      exact this) ?_)
    intro v4 w4 HO4 HG4
    refine of_hid ?_
    have hB4 : Below w1.heap.size (w1.alloc (.cells #[] 58)) w4 := grown_below HG4.out hBl (fun g e => by
      have e2 : some w1.heap.size = some g := e
      injection e2 with e2
      omega)
    have HB4 := hide (HB3.out.trans hB4)
    have hle4 : w1.heap.size ≤ w4.heap.size := HB4.out.size
    have HI4 := hide (HI.out.below HB4.out)
    have hIs := IsAs.drop HI4.out (k := i + 1) (by omega)
    have hdl : (us.drop (i + 1)).length = us.length - (i + 1) := by rw [List.length_drop]
    have hHO4 : OwnR w4 w1.heap.size v4 (us.take i) := HO4.out
    have hap := append_asks w4 51 v4 w1.heap.size (us.take i) (us.drop (i + 1)) _ _ hHO4 hle4 hIs (fun e => by cases e) (by rw [List.length_take, hdl]; omega)
    rw [hdl] at hap
    have HAp := hide hap
    have HO4b := hide hHO4
    clear hB4 hIs hdl hHO4 hap HO4 HG4
    go_upto_region 5 with (fail)
    go_cut [8] (fun u wx => Hid (OwnR wx w1.heap.size u (us.take i ++ us.drop (i + 1))) ∧ Hid (Below w1.heap.size w1 wx))
    case first =>
      by_cases hcv : cv = i + 1
      · subst hcv
        go_wp2_with (refine wpList_appR rfl (.tmp 22) (.tmp 26) rfl v4 (.slice (some ⟨g, 0, none⟩) 0 0) w1.heap.size (us.take i ++ us.drop (i + 1)) rfl rfl (by have := HAp.out; rw [if_pos rfl, show us.length - (i + 1) = 0 by omega, Nat.sub_self] at this; exact this) ?_)
        intro v5 w5 HO5 HG5
        refine of_hid ?_
        have HB5 : Hid (Below w1.heap.size w1 w5) := hide (HB4.out.trans (grown_below HG5.out hle4 (fun g e => (HO4b.out.blk e).1)))
        clear HO4b HG5
        go_wp2_with fail
        go_meet
        exact ⟨HO5, HB5⟩
      · go_wp2_with (refine wpList_appR rfl (.tmp 22) (.tmp 26) rfl v4 (.slice (some ⟨g, (i + 1) * 2, none⟩) (us.length - (i + 1)) (cv - (i + 1))) w1.heap.size (us.take i ++ us.drop (i + 1)) rfl rfl (by have := HAp.out; rw [if_neg hcv] at this; exact this) ?_)
        intro v5 w5 HO5 HG5
        refine of_hid ?_
        have HB5 : Hid (Below w1.heap.size w1 w5) := hide (HB4.out.trans (grown_below HG5.out hle4 (fun g e => (HO4b.out.blk e).1)))
        clear HO4b HG5
        go_wp2_with fail
        go_meet
        exact ⟨HO5, HB5⟩
    case rest =>
      obtain ⟨HO5, HB5⟩ := hcut
      have hlc : (us.take i ++ us.drop (i + 1)).length = (cut L i).length := by
        have := Husl.out
        unfold cut
        simp only [List.length_append, List.length_take, List.length_drop]
        omega
      have hZ : RkA wc N u8 (us.take i ++ us.drop (i + 1)) (cut L i) := by
        have hA5 := HA.out.below HB5.out
        refine ⟨?_, hlc, fun j u y h1 h2 => ?_, ?_, fun y hy p hp => ?_⟩
        · obtain ⟨k1, k2⟩ := HO5.out
          refine ⟨k1, ?_⟩
          rcases k2 with k2 | ⟨g, cap, cur, e, hb, r⟩
          · exact .inl k2
          · exact .inr ⟨g, cap, cur, e, Nat.le_trans hN hb, r⟩
        · have hu2 : us[if j < i then j else j + 1]? = some u := by
            by_cases hj : j < i
            · rw [if_pos hj]
              rw [List.getElem?_append_left (by rw [List.length_take]; omega), List.getElem?_take_of_lt hj] at h1
              exact h1
            · rw [if_neg hj]
              rw [List.getElem?_append_right (by rw [List.length_take]; omega), List.length_take, List.getElem?_drop] at h1
              rw [show i + 1 + (j - min i us.length) = j + 1 by omega] at h1
              exact h1
          have hy2 : L[if j < i then j else j + 1]? = some y := by
            rw [cut_at HiL.out] at h2
            split at h2 <;> rename_i h
            · rw [if_pos h]; exact h2
            · rw [if_neg h]; exact h2
          exact hA5.each _ u y hu2 hy2
        · have h1 := hA5.few
          have h2 := cut_len HiL.out
          omega
        · refine hA5.short y ?_ p hp
          unfold cut at hy
          rcases List.mem_append.1 hy with hy | hy
          · exact List.mem_of_mem_take hy
          · exact List.mem_of_mem_drop hy
      obtain ⟨n, hn⟩ : ∃ n, n = (cut L i).length := ⟨_, rfl⟩
      obtain ⟨ao, co, hu8, hIo, -⟩ := hZ.own.is
      rw [hlc, ← hn] at hu8
      subst hu8
      have hco : co ≤ 9223372036854775807 := hIo.2.2.1
      have hnn : n ≤ 64 := by rw [hn]; exact hZ.few
      have HZ : Hid (RkW wc N (.slice ao n co) (cut L i)) := hide ⟨_, hZ⟩
      have HL : Hid (RkW wc N (.slice (some ⟨g, 0, none⟩) us.length cv) L) := hide ⟨us, HA.out.below HB5.out⟩
      have Hn := hide hn
      clear hZ hIo hlc hn HO5 HA HI HR3 HI3 HI4 HB3 HB4 HAp HO4b HF hle4 hBl
      go_wp2_with fail
      go_loopw [9, 10] (fun nv j wr => ∃ k : Nat, j = .int .i64 (k : Int) ∧ k ≤ n ∧ RkW wr N (.slice (some ⟨g, 0, none⟩) us.length cv) L ∧ RkW wr N (.slice ao n co) (cut L i) ∧ OwnN wr w1.heap.size nv (nx (cut L i) x.2 i (k - i)) ∧ Below w1.heap.size w1 wr) (fun _ j _ => n - (intOf j).toNat)
      case atStart => exact ⟨0, rfl, Nat.zero_le _, HL.out, HZ.out, by rw [Nat.zero_sub]; exact OwnN.nil _ _, HB5.out⟩
      case round =>
        clear HL HZ HB5
        obtain ⟨k, rfl, hk, h1, h2, h3, h4⟩ := hrel
        have H1 := hide h1
        have H2 := hide h2
        have H3 := hide h3
        have H4 := hide h4
        clear h1 h2 h3 h4
        by_cases hlk : k < n
        · have hex : ∃ y, (cut L i)[k]? = some y := ⟨(cut L i)[k]'(by rw [← Hn.out]; exact hlk), List.getElem?_eq_getElem (by rw [← Hn.out]; exact hlk)⟩
          obtain ⟨y, hy⟩ := hex
          have HHas := hide (rhas_l H2.out (i := k) (by rw [← Hn.out]; exact hlk))
          have hnx := nx_at HX.out hy
          obtain ⟨idx, hidx⟩ : ∃ idx, idx = (if k < i then k else k + 1) := ⟨_, rfl⟩
          have hcf := cut_find HO.out HiL.out hy
          rw [← hidx] at hcf hnx
          obtain ⟨fb, hfb⟩ : ∃ fb, fb = freeL (cut L i) k := ⟨_, rfl⟩
          obtain ⟨fl, hfl⟩ : ∃ fl, fl = freeL L idx := ⟨_, rfl⟩
          rw [← hfb] at HHas hnx
          rw [← hfl] at hnx
          have HNx := hide hnx
          have HCf := hide hcf
          have HFl := hide hfl
          have Hy := hide hy
          have d5 : decide ((k : Int) < (n : Int)) = true := by simpa using hlk
          have k1 : (0 : Int) ≤ (k : Int) := by omega
          have k2 : (k : Int) < (n : Int) := by omega
          clear hnx hcf hidx hfb hfl hy
          go_wp2_with fail
          refine HHas.out.mono ?_
          rintro e w6 ⟨rfl, hb⟩
          have HL6 := hide (RkW.below H1.out hb)
          have HZ6 := hide (RkW.below H2.out hb)
          have HN6 := hide (H3.out.below hb)
          have HB6 := hide (keepB hb (Nat.le_refl _) H4.out)
          clear hb HHas H1 H2 H3 H4
          cases fb with
          | false =>
            have HNx2 : Hid (nx (cut L i) x.2 i (k + 1 - i) = nx (cut L i) x.2 i (k - i)) := hide (by rw [HNx.out]; simp)
            go_wp2
            go_roundw
            case rel => exact ⟨k + 1, by go_num, by omega, HL6.out, HZ6.out, by rw [HNx2.out]; exact HN6.out, HB6.out⟩
            case measure => simp [intOf]; omega
          | true =>
            obtain ⟨go, hao, c0⟩ := RkW.who HZ6.out Hy.out
            subst hao
            obtain ⟨who2, hw2⟩ : ∃ who2, who2 = y.1 := ⟨_, rfl⟩
            rw [← hw2] at c0 HNx HCf
            have HFd := hide (rfind_l HL6.out who2)
            rw [HCf.out.1] at HFd
            have HHl := hide (rhas_l HL6.out (i := idx) HCf.out.2)
            rw [← HFl.out] at HHl
            clear hw2
            go_wp2_with fail
            refine HFd.out.mono ?_
            rintro e w7 ⟨rfl, rfl⟩
            go_wp2_with fail
            refine HHl.out.mono ?_
            rintro e w8 ⟨rfl, hb⟩
            have HL8 := hide (RkW.below HL6.out hb)
            have HZ8 := hide (RkW.below HZ6.out hb)
            have HN8 := hide (HN6.out.below hb)
            have HB8 := hide (keepB hb (Nat.le_refl _) HB6.out)
            have c8 := keepC hb (Nat.le_refl _) c0
            clear hb HFd HHl HL6 HZ6 HN6 HB6 c0
            cases fl with
            | true =>
              have HNx2 : Hid (nx (cut L i) x.2 i (k + 1 - i) = nx (cut L i) x.2 i (k - i)) := hide (by rw [HNx.out]; simp)
              go_wp2
              go_roundw
              case rel => exact ⟨k + 1, by go_num, by omega, HL8.out, HZ8.out, by rw [HNx2.out]; exact HN8.out, HB8.out⟩
              case measure => simp [intOf]; omega
            | false =>
              have HNx2 : Hid (nx (cut L i) x.2 i (k + 1 - i) = nx (cut L i) x.2 i (k - i) ++ [who2]) := hide (by rw [HNx.out]; simp)
              have hb9 := below_new w8 (.cells #[.int .i64 who2] 3)
              have HL9 := hide (RkW.below HL8.out hb9)
              have HZ9 := hide (RkW.below HZ8.out hb9)
              have HN9 := hide (HN8.out.below hb9)
              have HB9 := hide (keepB hb9 (Nat.le_refl _) HB8.out)
              have HX9 := hide (heap_last w8 (.cells #[.int .i64 who2] 3))
              have hwl : (nx (cut L i) x.2 i (k - i)).length ≤ 1000000 := Nat.le_trans (nx_len _ _ _ _) (by omega)
              have hs9 : w1.heap.size ≤ (w8.alloc (.cells #[.int .i64 who2] 3)).heap.size := HB9.out.size
              clear hb9 HL8 HZ8 HN8 HB8
              go_wp2_with (refine wpList_appN rfl (.tmp 49) (.tmp 55) rfl _ w1.heap.size (nx (cut L i) x.2 i (k - i)) w8.heap.size who2 3 (0, 0) 1 rfl rfl HN9.out hs9 HX9.out hwl ?_)
              intro v10 w10 HO10 HG10
              refine of_hid ?_
              have HL10 := hide (RkW.grown HL9.out HN9.out HG10.out)
              have HZ10 := hide (RkW.grown HZ9.out HN9.out HG10.out)
              have HB10 := hide (HB9.out.trans (grown_below HG10.out hs9 (fun g e => (HN9.out.blk e).1)))
              clear HL9 HZ9 HN9 HB9 HG10 HX9 hs9 hwl c8
              go_wp2
              go_roundw
              case rel => exact ⟨k + 1, by go_num, by omega, HL10.out, HZ10.out, by rw [HNx2.out]; exact HO10.out, HB10.out⟩
              case measure => simp [intOf]; omega
        · obtain rfl : k = n := by omega
          have d5 : decide ((k : Int) < (k : Int)) = false := by simp
          have hcl := cut_len HiL.out
          have HEnd := hide (HR.out _ _ _ H2.out (by rw [← show k - i = L.length - 1 - i by rw [Hn.out]; omega]; exact H3.out) H4.out)
          clear hcl
          go_wp2
          refine ⟨rfl, _, results_tmp3 rfl _ _ _, ?_⟩
          exact HEnd.out
end Go.Proofs.YtlhjkacdhfchiaaDoor.Nd
