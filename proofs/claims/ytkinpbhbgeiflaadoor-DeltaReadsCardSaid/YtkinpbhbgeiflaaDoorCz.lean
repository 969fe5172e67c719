/- A reader of one's own over bytes that stay; what holds once something went wrong. -/
import Derived.Test.YtkinpbhbgeiflaaDoorCx
namespace Go.Proofs.YtkinpbhbgeiflaaDoor.Cv
set_option linter.unusedVariables false
set_option linter.unusedSimpArgs false
open Go.Proofs.YtkinpbhbgeiflaaDoor.Cr
theorem numP_code : ∀ (X : List Nat) (i n code : Nat), numP X i n = .bad code → code ≠ 0
  | [], i, n, code, h => by simp [numP] at h; omega
  | x :: X, i, n, code, h => by
    unfold numP at h
    split at h
    · injection h with h; omega
    · split at h
      · exact numP_code X _ _ _ h
      · split at h
        · injection h with h; omega
        · cases h
theorem numP_pos : ∀ (X : List Nat) (i n a k : Nat), numP X i n = .ok a k → i < k
  | [], i, n, a, k, h => by simp [numP] at h
  | x :: X, i, n, a, k, h => by
    unfold numP at h
    split at h
    · cases h
    · split at h
      · have := numP_pos X _ _ _ _ h; omega
      · split at h
        · cases h
        · injection h with h1 h2; omega
theorem Rs.num_moves (s : Rs) (L : List Nat) (h : s.fe = 0) (h' : (s.num L).fe = 0) : s.at_ < (s.num L).at_ := by
  unfold Rs.num at h' ⊢
  rw [if_pos h] at h' ⊢
  split at h' <;> rename_i hn
  · have := numP_pos _ _ _ _ _ hn
    simp only
    omega
  · have := numP_code _ _ _ _ hn
    simp only at h'
    omega
theorem Rs.has_stuck (s : Rs) (m n : Nat) (h : s.fe ≠ 0) : s.has m n = s := by unfold Rs.has; rw [if_neg (fun h' => h h'.1)]
theorem Rs.byte_stuck (s : Rs) (L : List Nat) (h : s.fe ≠ 0) : s.byte L = s ∧ s.byteV L = 0 := by
  unfold Rs.byte Rs.byteV
  rw [s.has_stuck _ _ h, if_neg h, if_neg h]
  exact ⟨rfl, rfl⟩
theorem Rs.num_stuck (s : Rs) (L : List Nat) (h : s.fe ≠ 0) : s.num L = s ∧ s.numV L = 0 := by
  unfold Rs.num Rs.numV
  rw [if_neg h, if_neg h]
  exact ⟨rfl, rfl⟩
theorem Rs.text_stuck (s : Rs) (L : List Nat) (h : s.fe ≠ 0) : s.text L = s ∧ s.textV L = [] := by
  have e : s.pre L = s := by
    unfold Rs.pre Rs.mid
    rw [(s.num_stuck L h).2, (s.num_stuck L h).1, if_neg (by omega), s.has_stuck _ _ h]
  unfold Rs.text Rs.textV
  rw [e, if_neg h, if_neg h]
  exact ⟨rfl, rfl⟩
theorem Rs.sum_stuck (s : Rs) (L : List Nat) (h : s.fe ≠ 0) : s.sum L = s ∧ s.sumV L = Go.Proofs.YtkinpbhbgeiflaaDoor.Ba.zeros 32 := by
  unfold Rs.sum Rs.sumV
  rw [s.has_stuck _ _ h, if_neg h, if_neg h]
  exact ⟨rfl, rfl⟩
theorem Rs.fin_stuck (s : Rs) (m : Nat) (h : s.fe ≠ 0) : s.fin m = s := by unfold Rs.fin; rw [if_neg (fun h' => h h'.1)]
end Go.Proofs.YtkinpbhbgeiflaaDoor.Cv
namespace Go.Proofs.YtkinpbhbgeiflaaDoor.Cz
set_option linter.unusedVariables false
set_option linter.unusedSimpArgs false
set_option maxRecDepth 100000
open Go.ChangeShapes Go.WideShapes Go.ChangeAt Go.RowKit
open Go.Proofs.YtkinpbhbgeiflaaDoor.Wu Go.Proofs.YtkinpbhbgeiflaaDoor.Sm Go.Proofs.YtkinpbhbgeiflaaDoor.Sh Go.Proofs.YtkinpbhbgeiflaaDoor.Ba Go.Proofs.YtkinpbhbgeiflaaDoor.Bp Go.Proofs.YtkinpbhbgeiflaaDoor.Cr Go.Proofs.YtkinpbhbgeiflaaDoor.Er Go.Proofs.YtkinpbhbgeiflaaDoor.Eu Go.Proofs.YtkinpbhbgeiflaaDoor.Cv Go.Proofs.YtkinpbhbgeiflaaDoor.Cw
/-- A new reader in block g over the bytes L, which lie elsewhere. -/
structure RV (w wr : World) (g : Nat) (a : Option Addr) (m c : Nat) (L : List Nat) (s : Rs) : Prop where
  rd : RdS wr g a m c s
  src : SrcB wr a m L
  below : Below w.heap.size w wr
  new : w.heap.size ≤ g
  apart : ∀ ad, a = some ad → 0 < m → ad.block ≠ g
section
variable {w wr w' : World} {g : Nat} {a : Option Addr} {m c : Nat} {L : List Nat} {s s' : Rs}
theorem RV.step (h : RV w wr g a m c L s) (hr : RdS w' g a m c s') (hg : wr.grownBy w' (some g)) : RV w w' g a m c L s' :=
  ⟨hr, src_kept h.src hg h.apart, belowG h.below hg h.new h.below.size, h.new, h.apart⟩
theorem RV.up (h : RV w wr g a m c L s) (hb : Below wr.heap.size wr w') : RV w w' g a m c L s :=
  ⟨below_blk hb (heap_lt h.rd) h.rd, h.src.below hb, keepB hb (Nat.le_refl _) h.below, h.new, h.apart⟩
theorem RV.et (h : RV w wr g a m c L s) (he : Et w) : Et wr := he.below h.below (Nat.le_refl _)
/-- code.Read of bytes that were there. -/
theorem RV.read {w1 : World} (hs : SrcB w1 a m L) (hb : Below w.heap.size w w1) :
    RV w (w1.alloc (.cells #[.slice a m c, .int .i64 0, .int .i64 0, .int .i64 0] 174)) w1.heap.size a m c L ⟨0, 0, 0⟩ :=
  ⟨heap_last _ _, hs.below (below_new _ _), hb.alloc hb.size _, hb.size, fun ad e h0 h => by
    obtain ⟨_, _, b, off, ha, hc⟩ := hs
    have h1 := ha h0
    rw [h1] at e
    injection e with e
    subst e
    have := cell_lt (hc 0 h0)
    simp only at this h
    omega⟩
end
end Go.Proofs.YtkinpbhbgeiflaaDoor.Cz
