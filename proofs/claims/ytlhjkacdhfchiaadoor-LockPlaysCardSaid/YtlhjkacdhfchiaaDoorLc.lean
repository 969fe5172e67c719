/- lock: is there one in the way? slices.ContainsFunc over inTheWay's closure. -/
import Derived.Test.YtlhjkacdhfchiaaDoorLb
namespace Go.Proofs.YtlhjkacdhfchiaaDoor.Lc
set_option linter.unusedVariables false
set_option linter.unusedSimpArgs false
set_option maxRecDepth 100000
open Go.ChangeShapes Go.WideShapes Go.ChangeAt Go.RowKit
open Go.Proofs.YtlhjkacdhfchiaaDoor.Wu Go.Proofs.YtlhjkacdhfchiaaDoor.Ps Go.Proofs.YtlhjkacdhfchiaaDoor.La Go.Proofs.YtlhjkacdhfchiaaDoor.Lb
/-- The paths that the asks' slices hold. -/
def Txs (w : World) (us : List La.Ask) (Ts : List (List (List UInt8))) : Prop := Ts.length = us.length ∧ ∀ (i : Nat) (u : La.Ask) (t : List (List UInt8)), us[i]? = some u → Ts[i]? = some t → SrcS w u.2.1 t ∧ t.length = u.2.2.1 ∧ u.2.2.1 ≤ u.2.2.2 ∧ u.2.2.2 ≤ 9223372036854775807
theorem Txs.below {w w' : World} {us : List La.Ask} {Ts : List (List (List UInt8))} (h : Txs w us Ts) (hb : Below w.heap.size w w') : Txs w' us Ts := ⟨h.1, fun i u t h1 h2 => by
  obtain ⟨k1, k2⟩ := h.2 i u t h1 h2
  exact ⟨k1.below hb, k2⟩⟩
theorem egw (args : Array Value) (w : World) : (callFunc 80 args).run Tryd.prog w = .ok (.enter 80 args) w := Go.Proofs.enters_of Tryd.func80 (by kernel_rfl) rfl args w
/-- The first of them that stands in the way, or -1. -/
def placeW (P : List (List UInt8)) (Ts : List (List (List UInt8))) : Int := match Ts.findIdx? (way P) with
  | some i => (i : Int)
  | none => -1
theorem placeW_hit {P : List (List UInt8)} {Ts : List (List (List UInt8))} {k : Nat} {t : List (List UInt8)} (h : Ts[k]? = some t) (hn : way P t = true) (hb : ∀ x ∈ Ts.take k, way P x = false) : placeW P Ts = (k : Int) := by
  have : Ts.findIdx? (way P) = some k := by
    rw [List.findIdx?_eq_some_iff_getElem]
    obtain ⟨hk, he⟩ := List.getElem?_eq_some_iff.1 h
    refine ⟨hk, by rw [he]; exact hn, fun j hj => ?_⟩
    have := hb Ts[j] (by
      rw [List.mem_take_iff_getElem]
      exact ⟨j, by omega, rfl⟩)
    simp [this]
  unfold placeW
  rw [this]
theorem placeW_miss {P : List (List UInt8)} {Ts : List (List (List UInt8))} (hb : ∀ x ∈ Ts, way P x = false) : placeW P Ts = -1 := by
  have : Ts.findIdx? (way P) = none := by
    rw [List.findIdx?_eq_none_iff]
    exact hb
  unfold placeW
  rw [this]
theorem placeW_any (P : List (List UInt8)) (Ts : List (List (List UInt8))) : decide (0 ≤ placeW P Ts) = Ts.any (way P) := by
  unfold placeW
  cases h : Ts.findIdx? (way P) with
  | some i =>
    obtain ⟨hk, he, -⟩ := List.findIdx?_eq_some_iff_getElem.1 h
    rw [List.any_eq_true.2 ⟨Ts[i], List.getElem_mem hk, he⟩]
    simp
  | none =>
    have : Ts.any (way P) = false := by
      rw [List.any_eq_false]
      intro x hx
      have := List.findIdx?_eq_none_iff.1 h x hx
      simpa using this
    rw [this]
    simp
set_option maxHeartbeats 1600000 in
theorem indexW_c (n' : Int) (a a' : Option Addr) (m c m' c' : Nat) (us : List La.Ask) (Ts : List (List (List UInt8))) (P : List (List UInt8)) (B : Nat) (T : TypeId) (w : World) (hu : IsAs w a m c us) (ht : Txs w us Ts)
    (hB : w.heap[B]? = some (.cells #[.int .i64 n', .slice a' m' c'] T (0, 0))) (hP : SrcS w a' P) (hPl : P.length = m') (hc' : m' ≤ c') (hm' : c' ≤ 9223372036854775807) :
    Calls Tryd.prog 50 #[.slice a m c, .func (.func 80) #[] #[.pointer (some ⟨B, 0, none⟩)]] w fun e w' => e = .returned (.int .i64 (placeW P Ts)) ∧ Below w.heap.size w w' := by
  obtain ⟨hlen, hmc, hcm, g, off, ha, hcell⟩ := hu
  have HL := hide hlen
  have HTl := hide (ht.1.trans hlen)
  have HC := hide (fun (i : Nat) (u0 : La.Ask) (h : us[i]? = some u0) (u : World) (hb : Below w.heap.size w u) => (⟨keepC hb (Nat.le_refl _) (hcell i u0 h).1, keepC hb (Nat.le_refl _) (hcell i u0 h).2⟩ : _ ∧ _))
  have HB := hide (fun (i : Nat) (u0 : La.Ask) (t : List (List UInt8)) (h1 : us[i]? = some u0) (h2 : Ts[i]? = some t) (u : World) (hb : Below w.heap.size w u) =>
    way_c u0.1 n' u0.2.1 a' u0.2.2.1 u0.2.2.2 m' c' P t B T u (below_blk hb (heap_lt hB) hB) (hP.below hb) hPl hc' hm' ((ht.2 i u0 t h1 h2).1.below hb) (ht.2 i u0 t h1 h2).2.1 (ht.2 i u0 t h1 h2).2.2.1 (ht.2 i u0 t h1 h2).2.2.2)
  clear hcell hB hlen ht hP hPl
  go_enter Tryd.func50, Tryd.ntmps50
  go_wp2_with fail
  go_loopw [8] (fun j wr => ∃ k, j = .int .i64 ((k : Nat) : Int) ∧ k ≤ m ∧ Hid (∀ x ∈ Ts.take k, way P x = false) ∧ Below w.heap.size w wr) (fun j _ => m - (intOf j).toNat)
  case atStart => exact ⟨0, rfl, Nat.zero_le _, (show ∀ x ∈ Ts.take 0, _ from by simp), Below.refl _ _⟩
  case round =>
    obtain ⟨k, rfl, hk, HN, hw⟩ := hrel
    have HW := hide hw
    clear hw
    by_cases hlt : k < m
    · obtain ⟨u0, hks⟩ : ∃ u, us[k]? = some u := ⟨us[k]'(by rw [HL.out]; exact hlt), by rw [List.getElem?_eq_getElem]⟩
      obtain ⟨t, hkt⟩ : ∃ t, Ts[k]? = some t := ⟨Ts[k]'(by rw [HTl.out]; exact hlt), by rw [List.getElem?_eq_getElem]⟩
      obtain ⟨c0, c1⟩ := HC.out k u0 hks wr HW.out
      have hcall := HB.out k u0 t hks hkt wr HW.out
      have Hk := hide hkt
      obtain rfl := ha (by omega)
      obtain ⟨nn, aa, mm, cc⟩ := u0
      unfold pv at c1
      clear hks ha hkt
      have d1 : decide ((k : Int) < (m : Int)) = true := by simpa using hlt
      have i1 : (0 : Int) ≤ (k : Int) := by omega
      have i2 : (k : Int) < (m : Int) := by omega
      cases hq : way P t with
      | true =>
        rw [hq] at hcall
        have HP := hide (placeW_hit Hk.out hq HN.out)
        have eg0 := egw
        clear hq
        go_wp2_with (go_at_fn 80; refine hcall.mono ?_; rintro e w' ⟨rfl, hb'⟩)
        go_ret
        exact ⟨by rw [HP.out]; rfl, keepB hb' (Nat.le_refl _) HW.out⟩
      | false =>
        rw [hq] at hcall
        have HNx : Hid (∀ x ∈ Ts.take (k + 1), way P x = false) := hide (fun x hx => by
          rw [List.take_add_one, Hk.out] at hx
          rcases List.mem_append.1 hx with hx | hx
          · exact HN.out x hx
          · simp at hx; rw [hx]; exact hq)
        have eg0 := egw
        clear hq HN
        go_wp2_with (go_at_fn 80; refine hcall.mono ?_; rintro e w' ⟨rfl, hb'⟩)
        have HWn := hide (keepB hb' (Nat.le_refl _) HW.out)
        go_roundw
        case rel => exact ⟨k + 1, by go_num, by omega, HNx, HWn.out⟩
        case measure => simp [intOf]; omega
    · obtain rfl : k = m := by omega
      have d1 : decide ((k : Int) < (k : Int)) = false := by simp
      have HP := hide (placeW_miss (Ts := Ts) (P := P) (by
        have := HN.out
        rwa [List.take_of_length_le (by rw [HTl.out]; exact Nat.le_refl _)] at this))
      clear hk ha HN
      go_wp2
      go_ret
      exact ⟨by rw [HP.out]; rfl, HW.out⟩
theorem contains_c (n' : Int) (a a' : Option Addr) (m c m' c' : Nat) (us : List La.Ask) (Ts : List (List (List UInt8))) (P : List (List UInt8)) (B : Nat) (T : TypeId) (w : World) (hu : IsAs w a m c us) (ht : Txs w us Ts)
    (hB : w.heap[B]? = some (.cells #[.int .i64 n', .slice a' m' c'] T (0, 0))) (hP : SrcS w a' P) (hPl : P.length = m') (hc' : m' ≤ c') (hm' : c' ≤ 9223372036854775807) :
    Calls Tryd.prog 79 #[.slice a m c, .func (.func 80) #[] #[.pointer (some ⟨B, 0, none⟩)]] w fun e w' => e = .returned (.bool (Ts.any (way P))) ∧ Below w.heap.size w w' := by
  have HI := hide (indexW_c n' a a' m c m' c' us Ts P B T w hu ht hB hP hPl hc' hm')
  have HA := hide (placeW_any P Ts)
  clear hu ht hB hP hPl
  generalize placeW P Ts = z at *
  go_enter Tryd.func79, Tryd.ntmps79
  go_wp2_with fail
  refine HI.out.mono ?_
  rintro e w' ⟨rfl, hb⟩
  have HB := hide hb
  clear hb
  go_wp2
  go_ret
  exact ⟨by rw [← HA.out]; rfl, HB.out⟩
end Go.Proofs.YtlhjkacdhfchiaaDoor.Lc
