/- conf: a module's users; Secret. -/
import Derived.Test.YtkinpbhbgeiflaaDoorAb
import Derived.Shelf.Abstract
import Derived.BigQuiet
import Derived.Deep.QuietTactic
namespace Go.Proofs.YtkinpbhbgeiflaaDoor.Ad
set_option linter.unusedVariables false
set_option linter.unusedSimpArgs false
set_option maxRecDepth 100000
open Go.ChangeShapes Go.WideShapes Go.ChangeAt Go.RowKit
open Go.Proofs.YtkinpbhbgeiflaaDoor.Wu Go.Proofs.YtkinpbhbgeiflaaDoor.Sm Go.Proofs.YtkinpbhbgeiflaaDoor.Sh Go.Proofs.YtkinpbhbgeiflaaDoor.Ba Go.Proofs.YtkinpbhbgeiflaaDoor.Bp Go.Proofs.YtkinpbhbgeiflaaDoor.Bs
/-- A slice that reads as these users. -/
def IsUs (w : World) (a : Option Addr) (m c : Nat) (us : List (ByteArray × ByteArray)) : Prop :=
  us.length = m ∧ m ≤ c ∧ c ≤ 9223372036854775807 ∧ ∃ g off, (0 < m → a = some ⟨g, off, none⟩) ∧ ∀ i n s, us[i]? = some (n, s) → w.cell? ⟨g, off + i * 2, none⟩ = some (.string n) ∧ w.cell? ⟨g, off + i * 2 + 1, none⟩ = some (.string s)
theorem IsUs.below {w w' : World} {a : Option Addr} {m c : Nat} {us : List (ByteArray × ByteArray)} (h : IsUs w a m c us) (hb : Below w.heap.size w w') : IsUs w' a m c us := by
  obtain ⟨h1, h2, h3, g, off, h4, h5⟩ := h
  exact ⟨h1, h2, h3, g, off, h4, fun i n s hi => ⟨keepC hb (Nat.le_refl _) (h5 i n s hi).1, keepC hb (Nat.le_refl _) (h5 i n s hi).2⟩⟩
theorem IsUs.nil (w : World) (a : Option Addr) (c : Nat) (hc : c ≤ 9223372036854775807) : IsUs w a 0 c [] := ⟨rfl, Nat.zero_le _, hc, 0, 0, fun h => absurd h (by omega), fun i n s h => by simp at h⟩
/-- Is it the user of that name? -/
def named (nm : ByteArray) (u : ByteArray × ByteArray) : Bool := u.1.toList == nm.toList
/-- The place of the first user of that name, or -1. -/
def place (us : List (ByteArray × ByteArray)) (nm : ByteArray) : Int := match us.findIdx? (named nm) with
  | some i => (i : Int)
  | none => -1
theorem place_hit {us : List (ByteArray × ByteArray)} {nm : ByteArray} {k : Nat} {u : ByteArray × ByteArray} (h : us[k]? = some u) (hn : named nm u = true) (hb : ∀ x ∈ us.take k, named nm x = false) : place us nm = (k : Int) := by
  have : us.findIdx? (named nm) = some k := by
    rw [List.findIdx?_eq_some_iff_getElem]
    obtain ⟨hk, he⟩ := List.getElem?_eq_some_iff.1 h
    refine ⟨hk, by rw [he]; exact hn, fun j hj => ?_⟩
    have := hb us[j] (by
      rw [List.mem_take_iff_getElem]
      exact ⟨j, by omega, rfl⟩)
    simp [this]
  unfold place
  rw [this]
theorem place_miss {us : List (ByteArray × ByteArray)} {nm : ByteArray} (hb : ∀ x ∈ us, named nm x = false) : place us nm = -1 := by
  have : us.findIdx? (named nm) = none := by
    rw [List.findIdx?_eq_none_iff]
    exact hb
  unfold place
  rw [this]
/-- What Secret answers. -/
def secV (us : List (ByteArray × ByteArray)) (nm : ByteArray) : Value := match us.find? (named nm) with
  | some u => .tuple #[.string u.2, .bool true]
  | none => .tuple #[.string ⟨#[]⟩, .bool false]
theorem place_cases (us : List (ByteArray × ByteArray)) (nm : ByteArray) : (us.find? (named nm) = none ∧ place us nm = -1) ∨ ∃ (k : Nat) (n s : ByteArray), us.find? (named nm) = some (n, s) ∧ us[k]? = some (n, s) ∧ place us nm = (k : Int) := by
  cases h : us.find? (named nm) with
  | none =>
    refine .inl ⟨rfl, place_miss (fun x hx => ?_)⟩
    have := List.find?_eq_none.1 h x hx
    simpa using this
  | some u =>
    obtain ⟨n, s⟩ := u
    obtain ⟨h1, pre, suf, h2, h3⟩ := List.find?_eq_some_iff_append.1 h
    have hk : us[pre.length]? = some (n, s) := by rw [h2]; simp
    refine .inr ⟨pre.length, n, s, rfl, hk, place_hit hk h1 (fun x hx => ?_)⟩
    rw [h2, List.take_left'] at hx
    · have := h3 x hx
      simpa using this
    · rfl
def modV (nm root : ByteArray) (wr : Bool) (sl qu : Int) (a : Option Addr) (m c : Nat) : Value := .agg #[.string nm, .string root, .bool wr, .int .i64 sl, .int .i64 qu, .slice a m c]
end Go.Proofs.YtkinpbhbgeiflaaDoor.Ad
