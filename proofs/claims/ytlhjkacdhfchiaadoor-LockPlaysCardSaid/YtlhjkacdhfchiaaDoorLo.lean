/- lock: Holder. -/
import Derived.Test.YtlhjkacdhfchiaaDoorLm
namespace Go.Proofs.YtlhjkacdhfchiaaDoor.Lo
set_option linter.unusedVariables false
set_option linter.unusedSimpArgs false
set_option maxRecDepth 100000
open Go.ChangeShapes Go.WideShapes Go.ChangeAt Go.RowKit
open Go.Proofs.YtlhjkacdhfchiaaDoor.Wu Go.Proofs.YtlhjkacdhfchiaaDoor.Ps Go.Proofs.YtlhjkacdhfchiaaDoor.Pu Go.Proofs.YtlhjkacdhfchiaaDoor.Px Go.Proofs.YtlhjkacdhfchiaaDoor.Pd Go.Proofs.YtlhjkacdhfchiaaDoor.Pe Go.Proofs.YtlhjkacdhfchiaaDoor.La Go.Proofs.YtlhjkacdhfchiaaDoor.Lb Go.Proofs.YtlhjkacdhfchiaaDoor.Lc Go.Proofs.YtlhjkacdhfchiaaDoor.Ld Go.Proofs.YtlhjkacdhfchiaaDoor.Le Go.Proofs.YtlhjkacdhfchiaaDoor.Lg Go.Proofs.YtlhjkacdhfchiaaDoor.Lh Go.Proofs.YtlhjkacdhfchiaaDoor.Li
def isP (p : List UInt8) (q : List UInt8) : Bool := decide (q = p)
def hasP (p : List UInt8) (T : List (List UInt8)) : Bool := T.any (isP p)
/-- The place of the first that is so, or -1. -/
def firstI {α : Type} (f : α → Bool) (l : List α) : Int := match l.findIdx? f with
  | some i => (i : Int)
  | none => -1
theorem firstI_hit {α : Type} {f : α → Bool} {l : List α} {k : Nat} {u : α} (h : l[k]? = some u) (hn : f u = true) (hb : ∀ x ∈ l.take k, f x = false) : firstI f l = (k : Int) := by
  have : l.findIdx? f = some k := by
    rw [List.findIdx?_eq_some_iff_getElem]
    obtain ⟨hk, he⟩ := List.getElem?_eq_some_iff.1 h
    refine ⟨hk, by rw [he]; exact hn, fun j hj => ?_⟩
    have := hb l[j] (by
      rw [List.mem_take_iff_getElem]
      exact ⟨j, by omega, rfl⟩)
    simp [this]
  unfold firstI
  rw [this]
theorem firstI_miss {α : Type} {f : α → Bool} {l : List α} (hb : ∀ x ∈ l, f x = false) : firstI f l = -1 := by
  have : l.findIdx? f = none := by
    rw [List.findIdx?_eq_none_iff]
    exact hb
  unfold firstI
  rw [this]
theorem firstI_any {α : Type} (f : α → Bool) (l : List α) : decide (0 ≤ firstI f l) = l.any f := by
  unfold firstI
  cases h : l.findIdx? f with
  | some i =>
    obtain ⟨hk, he, -⟩ := List.findIdx?_eq_some_iff_getElem.1 h
    rw [List.any_eq_true.2 ⟨l[i], List.getElem_mem hk, he⟩]
    simp
  | none =>
    have : l.any f = false := by
      rw [List.any_eq_false]
      intro x hx
      have := List.findIdx?_eq_none_iff.1 h x hx
      simpa using this
    rw [this]
    simp
theorem take_miss {α : Type} {f : α → Bool} {l : List α} {k : Nat} {u : α} (hN : ∀ x ∈ l.take k, f x = false) (hk : l[k]? = some u) (hq : f u = false) : ∀ x ∈ l.take (k + 1), f x = false := fun x hx => by
  rw [List.take_add_one, hk] at hx
  rcases List.mem_append.1 hx with hx | hx
  · exact hN x hx
  · simp at hx; rw [hx]; exact hq
set_option maxHeartbeats 1600000 in
theorem idx_c (a : Option Addr) (m c : Nat) (l : List (List UInt8)) (p : List UInt8) (w : World) (hs : SrcS w a l) (hl : l.length = m) (hc : m ≤ c) (hm : c ≤ 9223372036854775807) :
    Calls Tryd.prog 82 #[.slice a m c, .string (bs p)] w fun e w' => e = .returned (.int .i64 (firstI (isP p) l)) ∧ w' = w := by
  obtain ⟨b, off, ha, hcell⟩ := hs
  rw [hl] at ha
  have HC := hide hcell
  have HA := hide ha
  have HL := hide hl
  clear hcell ha hl
  go_enter Tryd.func82, Tryd.ntmps82
  go_wp2_with fail
  go_loopw [8] (fun j wr => ∃ k : Nat, j = .int .i64 (k : Int) ∧ k ≤ m ∧ Hid (∀ x ∈ l.take k, isP p x = false) ∧ wr = w) (fun j _ => m - (intOf j).toNat)
  case atStart => exact ⟨0, rfl, Nat.zero_le _, hide (fun x hx => by simp at hx), rfl⟩
  case round =>
    obtain ⟨k, rfl, hk, HN, rfl⟩ := hrel
    by_cases hlt : k < m
    · have hex : ∃ q, l[k]? = some q := ⟨l[k]'(by rw [HL.out]; exact hlt), List.getElem?_eq_getElem (by rw [HL.out]; exact hlt)⟩
      obtain ⟨q, hq⟩ := hex
      have cq := HC.out k q hq
      have HQ := hide hq
      have ea := HA.out (by omega)
      subst ea
      have d1 : decide ((k : Int) < (m : Int)) = true := by simpa using hlt
      have i1 : (0 : Int) ≤ (k : Int) := by omega
      have i2 : (k : Int) < (m : Int) := by omega
      have heq := eq_texts p q
      have heq2 := eq_texts q p
      clear hq
      by_cases hpq : q = p
      · have HR := hide (firstI_hit HQ.out (show isP p q = true by simp [isP, hpq]) HN.out)
        rw [decide_eq_true hpq] at heq2
        rw [decide_eq_true hpq.symm] at heq
        clear hpq
        go_wp2
        go_ret
        exact ⟨by rw [HR.out]; rfl, rfl⟩
      · have HN2 := hide (take_miss HN.out HQ.out (show isP p q = false by simp [isP, hpq]))
        rw [decide_eq_false hpq] at heq2
        rw [decide_eq_false (fun e => hpq e.symm)] at heq
        clear hpq
        go_wp2
        go_roundw
        case rel => exact ⟨k + 1, by go_num, by omega, HN2, trivial⟩
        case measure => simp [intOf]; omega
    · obtain rfl : k = m := by omega
      have d1 : decide ((k : Int) < (k : Int)) = false := by simp
      have HR := hide (firstI_miss (f := isP p) (l := l) (by
        have := HN.out
        rwa [List.take_of_length_le (by rw [HL.out]; exact Nat.le_refl _)] at this))
      go_wp2
      go_ret
      exact ⟨by rw [HR.out]; rfl, rfl⟩
theorem cont_c (a : Option Addr) (m c : Nat) (l : List (List UInt8)) (p : List UInt8) (w : World) (hs : SrcS w a l) (hl : l.length = m) (hc : m ≤ c) (hm : c ≤ 9223372036854775807) :
    Calls Tryd.prog 52 #[.slice a m c, .string (bs p)] w fun e w' => e = .returned (.bool (hasP p l)) ∧ w' = w := by
  have HI := hide (idx_c a m c l p w hs hl hc hm)
  have HA := hide (firstI_any (isP p) l)
  unfold hasP
  clear hs
  generalize firstI (isP p) l = z at *
  go_enter Tryd.func52, Tryd.ntmps52
  go_wp2_with fail
  refine HI.out.mono ?_
  rintro e w' ⟨rfl, rfl⟩
  go_wp2
  go_ret
  exact ⟨by rw [← HA.out]; rfl, rfl⟩
theorem egh (args : Array Value) (w : World) : (callFunc 51 args).run Tryd.prog w = .ok (.enter 51 args) w := Go.Proofs.enters_of Tryd.func51 (by kernel_rfl) rfl args w
theorem holds_c (n : Int) (a : Option Addr) (m c : Nat) (l : List (List UInt8)) (p : List UInt8) (B : Nat) (w : World) (hB : w.cell? ⟨B, 0, none⟩ = some (.string (bs p))) (hs : SrcS w a l) (hl : l.length = m) (hc : m ≤ c) (hm : c ≤ 9223372036854775807) :
    Calls Tryd.prog 51 #[.agg #[.int .i64 n, .slice a m c], .pointer (some ⟨B, 0, none⟩)] w fun e w' => e = .returned (.bool (hasP p l)) ∧ Below w.heap.size w w' := by
  have hlt := cell_lt hB
  have HB := hide (below_new w (.cells #[.int .i64 n, .slice a m c] 111))
  have hcb := keepC HB.out (Nat.le_refl _) hB
  have HC := hide (cont_c a m c l p _ (hs.below HB.out) hl hc hm)
  clear hs
  go_enter Tryd.func51, Tryd.ntmps51
  go_wp2_with fail
  refine HC.out.mono ?_
  rintro e w' ⟨rfl, rfl⟩
  go_wp2
  go_ret
  exact ⟨rfl, HB.out⟩
set_option maxHeartbeats 1600000 in
theorem indexH_c (a : Option Addr) (m c : Nat) (us : List La.Ask) (Ts : List (List (List UInt8))) (p : List UInt8) (B : Nat) (w : World) (hu : IsAs w a m c us) (ht : Txs w us Ts) (hB : w.cell? ⟨B, 0, none⟩ = some (.string (bs p))) :
    Calls Tryd.prog 50 #[.slice a m c, .func (.func 51) #[] #[.pointer (some ⟨B, 0, none⟩)]] w fun e w' => e = .returned (.int .i64 (firstI (hasP p) Ts)) ∧ Below w.heap.size w w' := by
  obtain ⟨hlen, hmc, hcm, g, off, ha, hcell⟩ := hu
  have HL := hide hlen
  have HTl := hide (ht.1.trans hlen)
  have HC := hide (fun (i : Nat) (u0 : La.Ask) (h : us[i]? = some u0) (u : World) (hb : Below w.heap.size w u) => (⟨keepC hb (Nat.le_refl _) (hcell i u0 h).1, keepC hb (Nat.le_refl _) (hcell i u0 h).2⟩ : _ ∧ _))
  have HB := hide (fun (i : Nat) (u0 : La.Ask) (t : List (List UInt8)) (h1 : us[i]? = some u0) (h2 : Ts[i]? = some t) (u : World) (hb : Below w.heap.size w u) =>
    holds_c u0.1 u0.2.1 u0.2.2.1 u0.2.2.2 t p B u (keepC hb (Nat.le_refl _) hB) ((ht.2 i u0 t h1 h2).1.below hb) (ht.2 i u0 t h1 h2).2.1 (ht.2 i u0 t h1 h2).2.2.1 (ht.2 i u0 t h1 h2).2.2.2)
  clear hcell hB hlen ht
  go_enter Tryd.func50, Tryd.ntmps50
  go_wp2_with fail
  go_loopw [8] (fun j wr => ∃ k, j = .int .i64 ((k : Nat) : Int) ∧ k ≤ m ∧ Hid (∀ x ∈ Ts.take k, hasP p x = false) ∧ Below w.heap.size w wr) (fun j _ => m - (intOf j).toNat)
  case atStart => exact ⟨0, rfl, Nat.zero_le _, (show ∀ x ∈ Ts.take 0, _ from by simp), Below.refl _ _⟩
  case round =>
    obtain ⟨k, rfl, hk, HN, hw⟩ := hrel
    have HW := hide hw
    clear hw
    by_cases hlt : k < m
    · obtain ⟨u0, hks⟩ : ∃ u, us[k]? = some u := ⟨us[k]'(by rw [HL.out]; exact hlt), by rw [List.getElem?_eq_getElem]⟩
      obtain ⟨t, hkt⟩ : ∃ t, Ts[k]? = some t := ⟨Ts[k]'(by rw [HTl.out]; exact hlt), by rw [List.getElem?_eq_getElem]⟩
      obtain ⟨c0, c1⟩ := HC.out k u0 hks wr HW.out
      have hcall := HB.out k u0 t hks hkt wr HW.out
      have Hk := hide hkt
      obtain rfl := ha (by omega)
      obtain ⟨nn, aa, mm, cc⟩ := u0
      unfold pv at c1
      clear hks ha hkt
      have d1 : decide ((k : Int) < (m : Int)) = true := by simpa using hlt
      have i1 : (0 : Int) ≤ (k : Int) := by omega
      have i2 : (k : Int) < (m : Int) := by omega
      cases hq : hasP p t with
      | true =>
        rw [hq] at hcall
        have HP := hide (firstI_hit Hk.out hq HN.out)
        have eg0 := egh
        clear hq
        go_wp2_with (go_at_fn 51; refine hcall.mono ?_; rintro e w' ⟨rfl, hb'⟩)
        go_ret
        exact ⟨by rw [HP.out]; rfl, keepB hb' (Nat.le_refl _) HW.out⟩
      | false =>
        rw [hq] at hcall
        have HNx := hide (take_miss HN.out Hk.out hq)
        have eg0 := egh
        clear hq HN
        go_wp2_with (go_at_fn 51; refine hcall.mono ?_; rintro e w' ⟨rfl, hb'⟩)
        have HWn := hide (keepB hb' (Nat.le_refl _) HW.out)
        go_roundw
        case rel => exact ⟨k + 1, by go_num, by omega, HNx, HWn.out⟩
        case measure => simp [intOf]; omega
    · obtain rfl : k = m := by omega
      have d1 : decide ((k : Int) < (k : Int)) = false := by simp
      have HP := hide (firstI_miss (f := hasP p) (l := Ts) (by
        have := HN.out
        rwa [List.take_of_length_le (by rw [HTl.out]; exact Nat.le_refl _)] at this))
      clear hk ha HN
      go_wp2
      go_ret
      exact ⟨by rw [HP.out]; rfl, HW.out⟩
/-- Who has a path. -/
def holdL (L : List Wh) (p : List UInt8) : Int × Bool := match L.findIdx? (fun x => hasP p x.2) with
  | some i => if freeL L i then ((L[i]?.getD (0, [])).1, true) else (0, false)
  | none => (0, false)
theorem holder_c {w : World} {N P : Nat} {L : List Wh} (h : LkW w N P L) (p : List UInt8) :
    Calls Tryd.prog 31 #[.pointer (some ⟨P, 0, none⟩), .string (bs p)] w fun e w' => e = .returned (.tuple #[.int .i64 (holdL L p).1, .bool (holdL L p).2]) ∧ Below w.heap.size w w' := by
  have hb0 := below_new w (.cells #[.string (bs p)] 9)
  have HB := hide hb0
  obtain ⟨v, us, hA⟩ := h
  have HA := hide (hA.below hb0)
  obtain ⟨a, c, rfl, hI⟩ := HA.out.form
  have HI := hide (indexH_c a us.length c us (L.map (·.2)) p w.heap.size _ hI HA.out.txs (blk_cell (heap_last w (.cells #[.string (bs p)] 9)) rfl))
  have e1 : firstI (hasP p) (L.map (·.2)) = firstI (fun x : Wh => hasP p x.2) L := by
    unfold firstI
    rw [List.findIdx?_map]
    rfl
  rw [e1] at HI
  have hPl := heap_lt hA.obj
  have c0 := blk_cell (i := 0) hA.obj rfl
  have HLen := hide HA.out.len
  unfold holdL
  cases hf : L.findIdx? (fun x : Wh => hasP p x.2) with
  | none =>
    have e2 : firstI (fun x : Wh => hasP p x.2) L = -1 := by unfold firstI; rw [hf]
    rw [e2] at HI
    clear hf e1 e2 hI hA hb0
    go_enter Tryd.func31, Tryd.ntmps31
    go_wp2_with fail
    generalize w.alloc (.cells #[.string (bs p)] 9) = w1 at *
    refine HI.out.mono ?_
    rintro e w2 ⟨rfl, hb⟩
    have HB2 := hide (keepB hb (Nat.le_refl _) HB.out)
    clear hb
    go_wp2
    go_ret2
    exact ⟨rfl, HB2.out⟩
  | some i =>
    have e2 : firstI (fun x : Wh => hasP p x.2) L = (i : Int) := by unfold firstI; rw [hf]
    rw [e2] at HI
    have hil := (List.findIdx?_eq_some_iff_getElem.1 hf).1
    have hex : ∃ x, L[i]? = some x := ⟨L[i], List.getElem?_eq_getElem hil⟩
    obtain ⟨⟨xw, T⟩, hx⟩ := hex
    have HX := hide hx
    have hil2 : i < us.length := by rw [HLen.out]; exact hil
    have hexu : ∃ u, us[i]? = some u := ⟨us[i], List.getElem?_eq_getElem hil2⟩
    obtain ⟨⟨xw2, aX, mX, cX⟩, hu⟩ := hexu
    have hxe := (HA.out.each i _ _ hu hx).1
    simp only at hxe
    subst hxe
    obtain ⟨-, -, hc3, g, off, ha', hcell⟩ := hI
    obtain rfl := ha' (by omega)
    have HCell := hide (hcell i _ hu).1
    have d0 : decide ((i : Int) < 0) = false := by simp
    have i1 : (0 : Int) ≤ (i : Int) := by omega
    have i2 : (i : Int) < (us.length : Int) := by omega
    obtain ⟨fr, hfr⟩ : ∃ fr, fr = freeL L i := ⟨_, rfl⟩
    have HFr := hide hfr
    simp only [hx, Option.getD_some]
    rw [← hfr]
    clear hf e1 e2 hA hb0 hil hx hil2 hu hc3 ha' hcell hfr HLen
    go_enter Tryd.func31, Tryd.ntmps31
    go_wp2_with fail
    generalize w.alloc (.cells #[.string (bs p)] 9) = w1 at *
    refine HI.out.mono ?_
    rintro e w2 ⟨rfl, hb⟩
    have HFc := hide (free_l (⟨_, _, HA.out.below hb⟩ : LkW w2 N P L) HX.out)
    rw [← HFr.out] at HFc
    have HB2 := hide (keepB hb (Nat.le_refl _) HB.out)
    have HA2 := hide (HA.out.below hb)
    have HC2 := hide (keepC hb (Nat.le_refl _) HCell.out)
    clear hb c0
    go_wp2_with fail
    refine HFc.out.mono ?_
    rintro e w3 ⟨rfl, hb⟩
    have HB3 := hide (keepB hb (Nat.le_refl _) HB2.out)
    have c3 := blk_cell (i := 0) (HA2.out.below hb).obj rfl
    have k3 := keepC hb (Nat.le_refl _) HC2.out
    clear hb HFr
    cases fr with
    | true =>
      go_wp2
      go_ret2
      exact ⟨rfl, HB3.out⟩
    | false =>
      go_wp2
      go_ret2
      exact ⟨rfl, HB3.out⟩
end Go.Proofs.YtlhjkacdhfchiaaDoor.Lo
