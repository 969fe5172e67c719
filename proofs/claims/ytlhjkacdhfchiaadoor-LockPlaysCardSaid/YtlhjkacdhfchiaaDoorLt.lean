/- law12: what is done with locks, as an argument; fits, common. -/
import Derived.Test.YtlhjkacdhfchiaaDoorLr
import Derived.Test.YtlhjkacdhfchiaaDoorPw
import Derived.Deep.Slices
import Derived.Deep.Strs
import Derived.Deep.MidRow
namespace Go.Proofs.YtlhjkacdhfchiaaDoor.Lt
set_option linter.unusedVariables false
set_option linter.unusedSimpArgs false
set_option maxRecDepth 100000
open Go.RowKit Go.WideShapes Go.ChangeShapes Go.ChangeAt Go.Deep
open Go.Proofs.YtlhjkacdhfchiaaDoor.Wu Go.Proofs.YtlhjkacdhfchiaaDoor.Pm Go.Proofs.YtlhjkacdhfchiaaDoor.Pc Go.Proofs.YtlhjkacdhfchiaaDoor.Pl Go.Proofs.YtlhjkacdhfchiaaDoor.Pd Go.Proofs.YtlhjkacdhfchiaaDoor.Pe Go.Proofs.YtlhjkacdhfchiaaDoor.Pg Go.Proofs.YtlhjkacdhfchiaaDoor.Ps Go.Proofs.YtlhjkacdhfchiaaDoor.Pw Go.Proofs.YtlhjkacdhfchiaaDoor.Lb
/-- What is done: its kind, who, and their paths. -/
structure OpL where
  k : Int
  who : Int
  a : Option Addr
  m : Nat
  c : Nat
  T : List (List UInt8)
def opC (o : OpL) : List Value := [.int .i64 o.k, .int .i64 o.who, .slice o.a o.m o.c]
structure OkL (w : World) (o : OpL) : Prop where
  src : SrcS w o.a o.T
  len : o.T.length = o.m
  cap : o.m ≤ o.c
  max : o.c ≤ 9223372036854775807
  txt : ∀ p ∈ o.T, p.length ≤ 9223372036854775807
  wf : (Lit.int .i64 o.who).wf = true
theorem OkL.below {w w' : World} {o : OpL} (h : OkL w o) (hb : Below w.heap.size w w') : OkL w' o := ⟨h.src.below hb, h.len, h.cap, h.max, h.txt, h.wf⟩
theorem trod_struct3 {H : Type} {enc : TypeId × Value → H} {P : Program} {w : World} {base : Nat} {spare : Nat → Bool} {held : Bool} {t : TypeId} {f0 f1 f2 : Field} {fuel : Nat} {cs : List Value} {x : DataW H × List MemPlace} (ht : P.underlying t = some (.struct #[f0, f1, f2])) (h : DataW.trod enc P w base spare held fuel t cs = some x) :
    ∃ y0 y1 y2 n, cs.length = P.cellsOf t ∧ DataW.trod enc P w base spare held n f0.type ((cs.drop f0.offset).take (P.cellsOf f0.type)) = some y0 ∧
      DataW.trod enc P w base spare held n f1.type ((cs.drop f1.offset).take (P.cellsOf f1.type)) = some y1 ∧ DataW.trod enc P w base spare held n f2.type ((cs.drop f2.offset).take (P.cellsOf f2.type)) = some y2 := by
  obtain ⟨xs, n, _, rfl, hl, hlen, hf⟩ := DataW.trod_struct ht h
  match xs, hlen with
  | [y0, y1, y2], _ => exact ⟨y0, y1, y2, n, hl, by simpa using hf 0 f0 rfl, by simpa using hf 1 f1 rfl, by simpa using hf 2 f2 rfl⟩
theorem op_cells {H : Type} {enc : TypeId × Value → H} {w : World} {base fuel : Nat} {held : Bool} {cs : List Value} {x : DataW H × List MemPlace}
    (hf : DataW.trod enc Tryd.prog w base (fun _ => true) held fuel 54 cs = some x) : ∃ o : OpL, cs = opC o ∧ OkL w o := by
  obtain ⟨y0, y1, y2, k, hl, h0, h1, h2⟩ := trod_struct3 Tryd.underlying54 hf
  have c3 : Tryd.prog.cellsOf 3 = 1 := by kernel_rfl
  have c5 : Tryd.prog.cellsOf 52 = 1 := by kernel_rfl
  have c9 : Tryd.prog.cellsOf 9 = 1 := by kernel_rfl
  have cO : Tryd.prog.cellsOf 54 = 3 := by kernel_rfl
  rw [cO] at hl
  simp only [c3, c5] at h0 h1 h2
  obtain ⟨a0, e0, _, _⟩ := DataW.trod_int Tryd.underlying3 h0
  obtain ⟨a1, e1, _, w1⟩ := DataW.trod_int Tryd.underlying3 h1
  have hs : ∃ a m c, (cs.drop 2).take 1 = [.slice a m c] := by
    rcases open_slice Tryd.underlying52 h2 with ⟨e, _⟩ | ⟨x, l, c, q, n', D, Pl, e, _⟩
    · exact ⟨none, 0, 0, e⟩
    · exact ⟨some x, l, c, e⟩
  obtain ⟨a, m, c, e2⟩ := hs
  rw [e2] at h2
  have hT : IsStrs w a m c := open_strs Tryd.underlying52 Tryd.underlying9 c9 (d := y2.1) (p := y2.2) ⟨k, by simpa [Value.cells] using h2⟩
  obtain ⟨T, t1, t2, t3, t4, t5⟩ := hT
  refine ⟨⟨a0, a1, a, m, c, T⟩, ?_, ⟨t2, t1, t3, t4, t5, w1⟩⟩
  match cs, hl, e0, e1, e2 with
  | [x0, x1, x2], _, e0, e1, e2 =>
    simp at e0 e1 e2
    subst e0 e1 e2
    rfl
/-- Such that came in, by their cells. -/
def IsOps (w : World) (a : Option Addr) (len cap : Nat) : Prop := ∃ l : List OpL, l.length = len ∧ len ≤ cap ∧ cap ≤ 9223372036854775807 ∧ ∃ g off, (0 < len → a = some ⟨g, off, none⟩) ∧
  ∀ i o, l[i]? = some o → (∀ j u, (opC o)[j]? = some u → w.cell? ⟨g, off + i * 3 + j, none⟩ = some u) ∧ OkL w o
theorem open_ops {H : Type} {enc : TypeId × Value → H} {w : World} {base : Nat} {held : Bool} {a : Option Addr} {len cap : Nat} {d : DataW H} {p : List MemPlace}
    (h : DataW.Trod enc Tryd.prog w base (fun _ => true) held 47 (.slice a len cap) d p) : IsOps w a len cap := by
  obtain ⟨fuel, hf⟩ := h
  rcases open_slice Tryd.underlying47 hf with ⟨h0, _⟩ | ⟨⟨xb, xo, spot⟩, len', cap', q, n', D, Pl, h0, hb, hlc, hm, hmm, _, hx⟩
  · simp [Value.cells] at h0
    obtain ⟨rfl, rfl, rfl⟩ := h0
    exact ⟨[], rfl, Nat.le_refl _, by omega, 0, 0, fun h => absurd h (by omega), fun i o h => by simp at h⟩
  · simp [Value.cells] at h0
    obtain ⟨rfl, rfl, rfl⟩ := h0
    simp at hmm
    subst hmm
    have e2' : Tryd.prog.cellsOf 54 = 3 := by kernel_rfl
    rw [e2'] at hx
    unfold maxLen at hm
    have key : ∀ i, i < len → ∃ o : OpL, OkL w o ∧ ∀ j, j < 3 → w.cell? ((Addr.mk xb xo spot).add (i * 3 + j)) = (opC o)[j]? := by
      intro i hi
      obtain ⟨cs', g1, g2⟩ := hx i (by omega)
      obtain ⟨o, rfl, hw⟩ := op_cells g2
      refine ⟨o, hw, fun j hj => ?_⟩
      have := (World.cells?_some g1).2.2 j hj
      rw [Addr.add_add] at this
      exact this
    obtain ⟨l, hll, hp⟩ := ex_list key
    have hs : 0 < len → spot = none := fun h0 => by
      have := (hp 0 (by omega)).2 0 (by omega)
      simpa [Addr.add] using World.cell?_spot this
    refine ⟨l, hll, hlc, by omega, xb, xo, fun h0 => by rw [hs h0], fun i o hi => ?_⟩
    obtain ⟨hil, he⟩ := List.getElem?_eq_some_iff.1 hi
    have hsp := hs (by omega)
    subst hsp
    obtain ⟨hw, hc⟩ := hp i hil
    rw [he] at hw hc
    refine ⟨fun j u hu => ?_, hw⟩
    have hj : j < 3 := (List.getElem?_eq_some_iff.1 hu).1
    have := hc j hj
    rw [Addr.add_mid, hu, ← Nat.add_assoc] at this
    exact this
set_option maxHeartbeats 1600000 in
theorem common_c (a a' : Option Addr) (m c m' c' : Nat) (P Q : List (List UInt8)) (w : World) (hP : SrcS w a P) (hPl : P.length = m) (hc : m ≤ c) (hm : c ≤ 9223372036854775807) (hQ : SrcS w a' Q) (hQl : Q.length = m') (hc' : m' ≤ c') (hm' : c' ≤ 9223372036854775807) :
    Calls Tryd.prog 28 #[.slice a m c, .slice a' m' c'] w fun e w' => e = .returned (.bool (way P Q)) ∧ w' = w := by
  obtain ⟨b, off, ha, hcell⟩ := hP
  obtain ⟨b', off', ha', hcell'⟩ := hQ
  rw [hPl] at ha
  rw [hQl] at ha'
  have HC := hide hcell
  have HC' := hide hcell'
  have HA := hide ha
  have HA' := hide ha'
  have HPl := hide hPl
  have HQl := hide hQl
  have HCl := hide (fun p q => clash_c p q w)
  clear hcell hcell' ha ha' hPl hQl
  go_enter Tryd.func28, Tryd.ntmps28
  go_wp2_with fail
  go_loopw [11] (fun j wr => ∃ i : Nat, j = .int .i64 (i : Int) ∧ i ≤ m ∧ way (P.take i) Q = false ∧ wr = w) (fun j _ => m - (intOf j).toNat)
  case atStart => exact ⟨0, rfl, Nat.zero_le _, by rw [List.take_zero]; rfl, rfl⟩
  case round =>
    obtain ⟨i, rfl, hi, hw0, rfl⟩ := hrel
    have HW := hide hw0
    clear hw0
    by_cases hlt : i < m
    · have hex : ∃ p, P[i]? = some p := ⟨P[i]'(by rw [HPl.out]; exact hlt), List.getElem?_eq_getElem (by rw [HPl.out]; exact hlt)⟩
      obtain ⟨p, hpi⟩ := hex
      have cp := HC.out i p hpi
      have HPi := hide hpi
      have ea := HA.out (by omega)
      subst ea
      clear hpi
      have d1 : decide ((i : Int) < (m : Int)) = true := by simpa using hlt
      have i1 : (0 : Int) ≤ (i : Int) := by omega
      have i2 : (i : Int) < (m : Int) := by omega
      go_wp2_with fail
      clear d1 i1 i2 cp
      go_loopw [17] (fun j wq => ∃ x : Nat, j = .int .i64 (x : Int) ∧ x ≤ m' ∧ hit p (Q.take x) = false ∧ wq = wr) (fun j _ => m' - (intOf j).toNat)
      case atStart => exact ⟨0, rfl, Nat.zero_le _, by rw [List.take_zero]; rfl, rfl⟩
      case round =>
        obtain ⟨x, rfl, hx, hh0, rfl⟩ := hrel
        have HH := hide hh0
        clear hh0
        by_cases hlx : x < m'
        · have hex2 : ∃ q, Q[x]? = some q := ⟨Q[x]'(by rw [HQl.out]; exact hlx), List.getElem?_eq_getElem (by rw [HQl.out]; exact hlx)⟩
          obtain ⟨q, hqi⟩ := hex2
          have cq := HC'.out x q hqi
          have HQi := hide hqi
          have ea := HA'.out (by omega)
          subst ea
          clear hqi
          have d1 : decide ((x : Int) < (m' : Int)) = true := by simpa using hlx
          have i1 : (0 : Int) ≤ (x : Int) := by omega
          have i2 : (x : Int) < (m' : Int) := by omega
          have heq := eq_texts p q
          have HClq := hide (HCl.out p q)
          by_cases hpq : p = q
          · have HR : Hid (way P Q = true) := hide (way_in HPi.out (hit_in HQi.out (by unfold hits; simp [hpq])))
            rw [decide_eq_true hpq] at heq
            clear hpq HClq
            go_wp2
            go_ret
            exact ⟨by rw [HR.out]; rfl, rfl⟩
          · rw [decide_eq_false hpq] at heq
            cases hcl : (pre p q || pre q p) with
            | true =>
              have HR : Hid (way P Q = true) := hide (way_in HPi.out (hit_in HQi.out (by unfold hits; rw [hcl]; simp)))
              rw [hcl] at HClq
              clear hpq hcl
              go_wp2_with fail
              refine HClq.out.mono ?_
              rintro e w' ⟨rfl, rfl⟩
              go_wp2
              go_ret
              exact ⟨by rw [HR.out]; rfl, rfl⟩
            | false =>
              have HH2 : Hid (hit p (Q.take (x + 1)) = false) := hide (by
                rw [hit_take HQi.out, HH.out]
                unfold hits
                rw [hcl]
                simp [hpq])
              rw [hcl] at HClq
              clear hpq hcl HH
              go_wp2_with fail
              refine HClq.out.mono ?_
              rintro e w' ⟨rfl, rfl⟩
              go_wp2
              go_roundw
              case rel => exact ⟨x + 1, by go_num, by omega, HH2.out, trivial⟩
              case measure => simp [intOf]; omega
        · obtain rfl : x = m' := by omega
          have d1 : decide ((x : Int) < (x : Int)) = false := by simp
          have HW2 : Hid (way (P.take (i + 1)) Q = false) := hide (by
            rw [way_take HPi.out, HW.out]
            have := HH.out
            rw [List.take_of_length_le (by rw [HQl.out]; exact Nat.le_refl _)] at this
            rw [this]
            rfl)
          clear HW HH
          go_wp2
          go_roundw
          case rel => exact ⟨i + 1, by go_num, by omega, HW2.out, trivial⟩
          case measure => simp [intOf]; omega
    · obtain rfl : i = m := by omega
      have d1 : decide ((i : Int) < (i : Int)) = false := by simp
      have HR : Hid (way P Q = false) := hide (by
        have := HW.out
        rwa [List.take_of_length_le (by rw [HPl.out]; exact Nat.le_refl _)] at this)
      go_wp2
      go_ret
      exact ⟨by rw [HR.out]; rfl, rfl⟩
/-- Of a size with which this is tried. -/
def Small (o : OpL) : Prop := o.m ≤ 20 ∧ ∀ p ∈ o.T, p.length ≤ 100
/-- What fits answers. -/
def FitsP (w : World) (m : Nat) (l : List OpL) (e : Ending) (w' : World) : Prop := ∃ b, e = .returned (.bool b) ∧ (b = true → m ≤ 90 ∧ ∀ o ∈ l, Small o) ∧ Below w.heap.size w w'
set_option maxHeartbeats 1600000 in
theorem fits_c (a : Option Addr) (m c : Nat) (l : List OpL) (w : World) (hl : l.length = m) (hmc : m ≤ 9223372036854775807) (g off : Nat) (ha : 0 < m → a = some ⟨g, off, none⟩)
    (hcell : ∀ i o, l[i]? = some o → (∀ j u, (opC o)[j]? = some u → w.cell? ⟨g, off + i * 3 + j, none⟩ = some u) ∧ OkL w o) :
    Calls Tryd.prog 19 #[.slice a m c] w (FitsP w m l) := by
  have HC := hide hcell
  have Hl := hide hl
  clear hcell hl
  by_cases h90 : 90 < m
  · have d1 : decide ((90 : Int) < (m : Int)) = true := by simp; omega
    have d1' : decide (90 < m) = true := by simp; omega
    go_enter Tryd.func19, Tryd.ntmps19
    go_wp2
    go_ret
    exact ⟨_, rfl, (fun h => by cases h), Below.refl _ _⟩
  · have d1 : decide ((90 : Int) < (m : Int)) = false := by simp; omega
    have d1' : decide (90 < m) = false := by simp; omega
    go_enter Tryd.func19, Tryd.ntmps19
    go_wp2_with fail
    clear d1 d1'
    go_loopw [12] (fun j wr => ∃ i : Nat, j = .int .i64 (i : Int) ∧ i ≤ m ∧ Hid (∀ o ∈ l.take i, Small o) ∧ Below w.heap.size w wr) (fun j _ => m - (intOf j).toNat)
    case atStart => exact ⟨0, rfl, Nat.zero_le _, hide (fun o ho => by simp at ho), Below.refl _ _⟩
    case round =>
      obtain ⟨i, rfl, hi, HSm, hb⟩ := hrel
      have HB := hide hb
      clear hb
      by_cases hlt : i < m
      · have d1 : decide ((i : Int) < (m : Int)) = true := by simpa using hlt
        have i1 : (0 : Int) ≤ (i : Int) := by omega
        have i2 : (i : Int) < (m : Int) := by omega
        have hex : ∃ o, l[i]? = some o := ⟨l[i]'(by rw [Hl.out]; exact hlt), List.getElem?_eq_getElem (by rw [Hl.out]; exact hlt)⟩
        obtain ⟨⟨kd, who, oa, om, oc, T⟩, hio⟩ := hex
        obtain ⟨hoc, hok⟩ := HC.out i _ hio
        obtain rfl := ha (by omega)
        have o0 := keepC HB.out (Nat.le_refl _) (hoc 0 _ rfl)
        have o1 := keepC HB.out (Nat.le_refl _) (hoc 1 _ rfl)
        have o2 := keepC HB.out (Nat.le_refl _) (hoc 2 _ rfl)
        rw [Nat.add_zero] at o0
        simp only at o0 o1 o2
        have HOk := hide (hok.below HB.out)
        have HIo := hide hio
        have hlT := hok.len
        have hcT := hok.cap
        have hxT := hok.max
        simp only at hlT hcT hxT
        have HB2 := hide (keepB (below_new wr (.cells #[.int .i64 kd, .int .i64 who, .slice oa om oc] 54)) (Nat.le_refl _) HB.out)
        have HOk2 := hide (HOk.out.below (below_new wr (.cells #[.int .i64 kd, .int .i64 who, .slice oa om oc] 54)))
        clear hoc hok hio ha
        by_cases h20 : 20 < om
        · have d2 : decide ((20 : Int) < (om : Int)) = true := by simp; omega
          have d2' : decide (20 < om) = true := by simp; omega
          go_wp2
          go_ret
          exact ⟨_, rfl, (fun h => by cases h), HB2.out⟩
        · have d2 : decide ((20 : Int) < (om : Int)) = false := by simp; omega
          have d2' : decide (20 < om) = false := by simp; omega
          go_wp2_with fail
          generalize wr.alloc (.cells #[.int .i64 kd, .int .i64 who, .slice oa om oc] 54) = w2 at *
          generalize wr.heap.size = B at *
          clear o0 o1 o2 d1 d2 d2' i1 i2
          obtain ⟨tb, toff, hta, htc⟩ := HOk2.out.src
          simp only at hta htc
          rw [hlT] at hta
          have HTa := hide hta
          have HTc := hide htc
          have HlT := hide hlT
          clear hta htc hlT
          go_loopw [23] (fun j wq => ∃ k : Nat, j = .int .i64 (k : Int) ∧ k ≤ om ∧ Hid (∀ p ∈ T.take k, p.length ≤ 100) ∧ wq = w2) (fun j _ => om - (intOf j).toNat)
          case atStart => exact ⟨0, rfl, Nat.zero_le _, hide (fun p hp => by simp at hp), rfl⟩
          case round =>
            obtain ⟨k, rfl, hk, HTs, rfl⟩ := hrel
            by_cases hlk : k < om
            · have d3 : decide ((k : Int) < (om : Int)) = true := by simpa using hlk
              have i3 : (0 : Int) ≤ (k : Int) := by omega
              have i4 : (k : Int) < (om : Int) := by omega
              have hex2 : ∃ p, T[k]? = some p := ⟨T[k]'(by rw [HlT.out]; exact hlk), List.getElem?_eq_getElem (by rw [HlT.out]; exact hlk)⟩
              obtain ⟨p, hp⟩ := hex2
              have cp := HTc.out k p hp
              obtain rfl := HTa.out (by omega)
              have hsz : (bs p).size = p.length := bs_size p
              have HPk := hide hp
              obtain ⟨z, hzl⟩ : ∃ z, z = p.length := ⟨_, rfl⟩
              rw [← hzl] at hsz
              have Hzl := hide hzl
              clear hp hzl
              by_cases h100 : 100 < z
              · have d4 : decide ((100 : Int) < (z : Int)) = true := by simp; omega
                have d4' : decide (100 < z) = true := by simp; omega
                go_wp2
                go_ret
                exact ⟨_, rfl, (fun h => by cases h), HB2.out⟩
              · have d4 : decide ((100 : Int) < (z : Int)) = false := by simp; omega
                have d4' : decide (100 < z) = false := by simp; omega
                have HTs2 : Hid (∀ p ∈ T.take (k + 1), p.length ≤ 100) := hide (fun x hx => by
                  rw [List.take_add_one, HPk.out] at hx
                  rcases List.mem_append.1 hx with hx | hx
                  · exact HTs.out x hx
                  · simp at hx; rw [hx, ← Hzl.out]; omega)
                go_wp2
                go_roundw
                case rel => exact ⟨k + 1, by go_num, by omega, HTs2, trivial⟩
                case measure => simp [intOf]; omega
            · obtain rfl : k = om := by omega
              have d3 : decide ((k : Int) < (k : Int)) = false := by simp
              have HSm2 : Hid (∀ o ∈ l.take (i + 1), Small o) := hide (fun o ho => by
                rw [List.take_add_one, HIo.out] at ho
                rcases List.mem_append.1 ho with ho | ho
                · exact HSm.out o ho
                · simp at ho
                  rw [ho]
                  have := HTs.out
                  rw [List.take_of_length_le (by rw [HlT.out]; exact Nat.le_refl _)] at this
                  exact ⟨by simp only; omega, this⟩)
              go_wp2
              go_roundw
              case rel => exact ⟨i + 1, by go_num, by omega, HSm2, HB2.out⟩
              case measure => simp [intOf]; omega
      · obtain rfl : i = m := by omega
        have d1 : decide ((i : Int) < (i : Int)) = false := by simp
        have HAll := hide (show ∀ o ∈ l, Small o from by
          have := HSm.out
          rwa [List.take_of_length_le (by rw [Hl.out]; exact Nat.le_refl _)] at this)
        go_wp2
        go_ret
        exact ⟨_, rfl, fun _ => ⟨by omega, HAll.out⟩, HB.out⟩
end Go.Proofs.YtlhjkacdhfchiaaDoor.Lt
