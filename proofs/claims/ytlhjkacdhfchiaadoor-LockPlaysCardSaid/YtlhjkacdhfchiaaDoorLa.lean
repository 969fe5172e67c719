/- lock: the asks in a slice; find. -/
import Derived.Test.YtlhjkacdhfchiaaDoorBo
import Derived.Shelf.Abstract
import Derived.BigQuiet
import Derived.Deep.QuietTactic
namespace Go.Proofs.YtlhjkacdhfchiaaDoor.La
set_option linter.unusedVariables false
set_option linter.unusedSimpArgs false
set_option maxRecDepth 100000
open Go.ChangeShapes Go.WideShapes Go.ChangeAt Go.RowKit
open Go.Proofs.YtlhjkacdhfchiaaDoor.Wu
/-- Who asks, and the slice of their paths. -/
abbrev Ask := Int × (Option Addr × Nat × Nat)
def pv (u : Ask) : Value := .slice u.2.1 u.2.2.1 u.2.2.2
/-- A slice that reads as these asks. -/
def IsAs (w : World) (a : Option Addr) (m c : Nat) (us : List Ask) : Prop :=
  us.length = m ∧ m ≤ c ∧ c ≤ 9223372036854775807 ∧ ∃ g off, (0 < m → a = some ⟨g, off, none⟩) ∧ ∀ i u, us[i]? = some u → w.cell? ⟨g, off + i * 2, none⟩ = some (.int .i64 u.1) ∧ w.cell? ⟨g, off + i * 2 + 1, none⟩ = some (pv u)
theorem IsAs.below {w w' : World} {a : Option Addr} {m c : Nat} {us : List Ask} (h : IsAs w a m c us) (hb : Below w.heap.size w w') : IsAs w' a m c us := by
  obtain ⟨h1, h2, h3, g, off, h4, h5⟩ := h
  exact ⟨h1, h2, h3, g, off, h4, fun i u hi => ⟨keepC hb (Nat.le_refl _) (h5 i u hi).1, keepC hb (Nat.le_refl _) (h5 i u hi).2⟩⟩
theorem IsAs.nil (w : World) (a : Option Addr) (c : Nat) (hc : c ≤ 9223372036854775807) : IsAs w a 0 c [] := ⟨rfl, Nat.zero_le _, hc, 0, 0, fun h => absurd h (by omega), fun i u h => by simp at h⟩
theorem eg (args : Array Value) (w : World) : (callFunc 74 args).run Tryd.prog w = .ok (.enter 74 args) w := Go.Proofs.enters_of Tryd.func74 (by kernel_rfl) rfl args w
def isWho (who : Int) (u : Ask) : Bool := u.1 == who
theorem is_c (u : Ask) (who : Int) (B : Nat) (w : World) (hB : w.cell? ⟨B, 0, none⟩ = some (.int .i64 who)) :
    Calls Tryd.prog 74 #[.agg #[.int .i64 u.1, pv u], .pointer (some ⟨B, 0, none⟩)] w fun e w' => e = .returned (.bool (isWho who u)) ∧ Below w.heap.size w w' := by
  obtain ⟨n, a, m, c⟩ := u
  unfold pv
  have hlt := cell_lt hB
  have HB := hide (below_new w (.cells #[.int .i64 n, .slice a m c] 111))
  have hc := keepC HB.out (Nat.le_refl _) hB
  go_enter Tryd.func74, Tryd.ntmps74
  go_wp2
  go_ret
  exact ⟨rfl, HB.out⟩
/-- The place of the first ask of somebody, or -1. -/
def place (us : List Ask) (who : Int) : Int := match us.findIdx? (isWho who) with
  | some i => (i : Int)
  | none => -1
theorem place_hit {us : List Ask} {who : Int} {k : Nat} {u : Ask} (h : us[k]? = some u) (hn : isWho who u = true) (hb : ∀ x ∈ us.take k, isWho who x = false) : place us who = (k : Int) := by
  have : us.findIdx? (isWho who) = some k := by
    rw [List.findIdx?_eq_some_iff_getElem]
    obtain ⟨hk, he⟩ := List.getElem?_eq_some_iff.1 h
    refine ⟨hk, by rw [he]; exact hn, fun j hj => ?_⟩
    have := hb us[j] (by
      rw [List.mem_take_iff_getElem]
      exact ⟨j, by omega, rfl⟩)
    simp [this]
  unfold place
  rw [this]
theorem place_miss {us : List Ask} {who : Int} (hb : ∀ x ∈ us, isWho who x = false) : place us who = -1 := by
  have : us.findIdx? (isWho who) = none := by
    rw [List.findIdx?_eq_none_iff]
    exact hb
  unfold place
  rw [this]
set_option maxHeartbeats 1600000 in
theorem index_c (a : Option Addr) (m c : Nat) (us : List Ask) (who : Int) (B : Nat) (w : World) (hu : IsAs w a m c us) (hB : w.cell? ⟨B, 0, none⟩ = some (.int .i64 who)) :
    Calls Tryd.prog 50 #[.slice a m c, .func (.func 74) #[] #[.pointer (some ⟨B, 0, none⟩)]] w fun e w' => e = .returned (.int .i64 (place us who)) ∧ Below w.heap.size w w' := by
  obtain ⟨hlen, hmc, hcm, g, off, ha, hcell⟩ := hu
  have HL := hide hlen
  have HC := hide (fun i u0 (h : us[i]? = some u0) (u : World) (hb : Below w.heap.size w u) => (⟨keepC hb (Nat.le_refl _) (hcell i u0 h).1, keepC hb (Nat.le_refl _) (hcell i u0 h).2⟩ : _ ∧ _))
  have HB := hide (fun (u0 : Ask) (u : World) (hb : Below w.heap.size w u) => is_c u0 who B u (keepC hb (Nat.le_refl _) hB))
  clear hcell hB hlen
  go_enter Tryd.func50, Tryd.ntmps50
  go_wp2_with fail
  go_loopw [8] (fun j wr => ∃ k, j = .int .i64 ((k : Nat) : Int) ∧ k ≤ m ∧ Hid (∀ x ∈ us.take k, isWho who x = false) ∧ Below w.heap.size w wr) (fun j _ => m - (intOf j).toNat)
  case atStart => exact ⟨0, rfl, Nat.zero_le _, (show ∀ x ∈ us.take 0, _ from by simp), Below.refl _ _⟩
  case round =>
    obtain ⟨k, rfl, hk, HN, hw⟩ := hrel
    have HW := hide hw
    clear hw
    by_cases hlt : k < m
    · obtain ⟨u0, hks⟩ : ∃ u, us[k]? = some u := ⟨us[k]'(by rw [HL.out]; exact hlt), by rw [List.getElem?_eq_getElem]⟩
      obtain ⟨c0, c1⟩ := HC.out k u0 hks wr HW.out
      have hcall := HB.out u0 wr HW.out
      have Hk := hide hks
      obtain rfl := ha (by omega)
      clear hks ha
      have d1 : decide ((k : Int) < (m : Int)) = true := by simpa using hlt
      have i1 : (0 : Int) ≤ (k : Int) := by omega
      have i2 : (k : Int) < (m : Int) := by omega
      cases hq : isWho who u0 with
      | true =>
        rw [hq] at hcall
        have HP := hide (place_hit Hk.out hq HN.out)
        have eg0 := eg
        clear hq
        go_wp2_with (go_at_fn 74; refine hcall.mono ?_; rintro e w' ⟨rfl, hb'⟩)
        go_ret
        exact ⟨by rw [HP.out]; rfl, keepB hb' (Nat.le_refl _) HW.out⟩
      | false =>
        rw [hq] at hcall
        have HNx : Hid (∀ x ∈ us.take (k + 1), isWho who x = false) := hide (fun x hx => by
          rw [List.take_add_one, Hk.out] at hx
          rcases List.mem_append.1 hx with hx | hx
          · exact HN.out x hx
          · simp at hx; rw [hx]; exact hq)
        have eg0 := eg
        clear hq HN
        go_wp2_with (go_at_fn 74; refine hcall.mono ?_; rintro e w' ⟨rfl, hb'⟩)
        have HWn := hide (keepB hb' (Nat.le_refl _) HW.out)
        go_roundw
        case rel => exact ⟨k + 1, by go_num, by omega, HNx, HWn.out⟩
        case measure => simp [intOf]; omega
    · obtain rfl : k = m := by omega
      have d1 : decide ((k : Int) < (k : Int)) = false := by simp
      have HP := hide (place_miss (us := us) (who := who) (by
        have := HN.out
        rwa [List.take_of_length_le (by rw [HL.out]; exact Nat.le_refl _)] at this))
      clear hk ha HN
      go_wp2
      go_ret
      exact ⟨by rw [HP.out]; rfl, HW.out⟩
/-- find: over the Locks in their block. -/
theorem find_c (P : Nat) (who : Int) (a : Option Addr) (m c : Nat) (us : List Ask) (T : TypeId) (w : World) (hP : w.heap[P]? = some (.cells #[.slice a m c] T (0, 0))) (hu : IsAs w a m c us) :
    Calls Tryd.prog 43 #[.pointer (some ⟨P, 0, none⟩), .int .i64 who] w fun e w' => e = .returned (.int .i64 (place us who)) ∧ Below w.heap.size w w' := by
  have HB := hide (below_new w (.cells #[.int .i64 who] 3))
  have cP : (w.alloc (.cells #[.int .i64 who] 3)).cell? ⟨P, 0, none⟩ = some (.slice a m c) := blk_cell (heap_old hP _) rfl
  have HI := hide (index_c a m c us who w.heap.size _ (hu.below HB.out) (blk_cell (heap_last w (.cells #[.int .i64 who] 3)) rfl))
  clear hP hu
  go_enter Tryd.func43, Tryd.ntmps43
  go_wp2_with fail
  generalize (w.alloc (.cells #[.int .i64 who] 3)) = w1 at *
  refine HI.out.mono ?_
  rintro e w2 ⟨rfl, hb2⟩
  have HB2 := hide (keepB hb2 (Nat.le_refl _) HB.out)
  clear hb2 HB HI
  go_wp2
  go_ret
  exact ⟨rfl, HB2.out⟩
end Go.Proofs.YtlhjkacdhfchiaaDoor.La
