/- The reference's reader (layer 3): Byte and Number as the machine of the program's reader says. -/
import Derived.Test.YtkinpbhbgeiflaaDoorRb
import Derived.Test.YtkinpbhbgeiflaaDoorCz
namespace Go.Proofs.YtkinpbhbgeiflaaDoor.Rq
set_option linter.unusedVariables false
set_option linter.unusedSimpArgs false
set_option maxRecDepth 100000
open Go.ChangeShapes Go.WideShapes Go.ChangeAt Go.RowKit
open Go.Proofs.YtkinpbhbgeiflaaDoor.Wu Go.Proofs.YtkinpbhbgeiflaaDoor.Sm Go.Proofs.YtkinpbhbgeiflaaDoor.Sh Go.Proofs.YtkinpbhbgeiflaaDoor.Ba Go.Proofs.YtkinpbhbgeiflaaDoor.Bs Go.Proofs.YtkinpbhbgeiflaaDoor.Cr Go.Proofs.YtkinpbhbgeiflaaDoor.Cs Go.Proofs.YtkinpbhbgeiflaaDoor.Cv Go.Proofs.YtkinpbhbgeiflaaDoor.Ra Go.Proofs.YtkinpbhbgeiflaaDoor.Rb
/-- The reference's reader says what the machine does. -/
def Qof (L : List Nat) (s : Rs) (v : Value) : Prop := ∃ at_ bad : Int, v = qv L at_ s.fe bad ∧ (s.fe = 0 → at_ = (s.at_ : Int)) ∧ (s.fe ≠ 0 → bad = s.fa)
/-- A reader and a value. -/
def RetQ (w : World) (L : List Nat) (s : Rs) (x : Value) (e : Ending) (w' : World) : Prop := ∃ v, e = .returned (.tuple #[v, x]) ∧ Qof L s v ∧ Below w.heap.size w w'
theorem bne0 {x : Int} (h : ¬ x = 0) : (x != 0) = true := by rw [bne_iff_ne]; exact h
theorem byte_q (L : List Nat) (s : Rs) (v : Value) (w : World) (h8 : All8 L) (hm : L.length ≤ 281474976710656) (hat : s.at_ ≤ L.length) (hq : Qof L s v) :
    Calls Tryd.prog 100 #[v] w (RetQ w L (s.byte L) (.int .i64 ((s.byteV L : Nat) : Int))) := by
  obtain ⟨at_, bad, rfl, h1, h2⟩ := hq
  by_cases hfe : s.fe = 0
  · rw [h1 hfe, hfe]
    by_cases hl : s.at_ < L.length
    · refine (byte_ok L s.at_ bad w h8 hl hm).mono ?_
      rintro e w' ⟨rfl, hb⟩
      have e1 : s.has L.length 1 = s := by unfold Rs.has; rw [if_neg (by omega)]
      have e2 : s.byte L = ⟨s.at_ + 1, s.fa, s.fe⟩ := by unfold Rs.byte; rw [e1, if_pos hfe]
      have e3 : s.byteV L = L.getD s.at_ 0 := by unfold Rs.byteV; rw [e1, if_pos hfe]
      rw [e2, e3]
      exact ⟨_, rfl, ⟨_, bad, by rw [hfe], fun _ => rfl, fun h => absurd hfe h⟩, hb⟩
    · refine (byte_end L s.at_ bad w (by omega) (by omega)).mono ?_
      rintro e w' ⟨rfl, hb⟩
      have e1 : s.has L.length 1 = ⟨s.at_, (L.length : Int), 30⟩ := by unfold Rs.has; rw [if_pos ⟨hfe, by omega⟩]
      have e2 : s.byte L = ⟨s.at_, (L.length : Int), 30⟩ := by unfold Rs.byte; rw [e1, if_neg (by simp)]
      have e3 : s.byteV L = 0 := by unfold Rs.byteV; rw [e1, if_neg (by simp)]
      rw [e2, e3]
      exact ⟨_, rfl, ⟨_, _, rfl, fun h => by simp at h, fun _ => by simp only; omega⟩, hb⟩
  · refine (byte_no L at_ s.fe bad w (bne0 hfe)).mono ?_
    rintro e w' ⟨rfl, hb⟩
    rw [(s.byte_stuck L hfe).1, (s.byte_stuck L hfe).2]
    exact ⟨_, rfl, ⟨_, _, rfl, h1, h2⟩, hb⟩
theorem num_q (L : List Nat) (s : Rs) (v : Value) (w : World) (h8 : All8 L) (hm : L.length ≤ 281474976710656) (hat : s.at_ ≤ L.length) (hq : Qof L s v) :
    Calls Tryd.prog 68 #[v] w (RetQ w L (s.num L) (.int .i64 ((s.numV L : Nat) : Int))) := by
  obtain ⟨at_, bad, rfl, h1, h2⟩ := hq
  by_cases hfe : s.fe = 0
  · rw [h1 hfe, hfe]
    refine (number_c L s.at_ bad w _ h8 hat hm rfl).mono ?_
    rintro e w' ⟨hb, hR⟩
    unfold Rs.num Rs.numV
    rw [if_pos hfe, if_pos hfe]
    cases hn : numP (L.drop s.at_) 0 0 with
    | ok n k =>
      rw [hn] at hR
      simp only at hR ⊢
      exact ⟨_, hR, ⟨_, bad, by rw [hfe], fun _ => rfl, fun h => absurd hfe h⟩, hb⟩
    | bad code =>
      rw [hn] at hR
      simp only at hR ⊢
      obtain ⟨a', hR⟩ := hR
      have hc := numP_code _ _ _ _ hn
      exact ⟨_, hR, ⟨_, _, rfl, fun h => by simp only at h; omega, fun _ => rfl⟩, hb⟩
  · refine (number_no L at_ s.fe bad w (bne0 hfe)).mono ?_
    rintro e w' ⟨rfl, hb⟩
    rw [(s.num_stuck L hfe).1, (s.num_stuck L hfe).2]
    exact ⟨_, rfl, ⟨_, _, rfl, h1, h2⟩, hb⟩
theorem strN_mid (L : List Nat) (i n : Nat) : (strN L).extract i (i + n) = strN ((L.drop i).take n) := by
  unfold strN strOfNums
  apply ByteArray.ext
  simp [ByteArray.data_extract, List.map_take, List.map_drop, List.extract_eq_take_drop]
theorem slice_str (L : List Nat) (i n : Nat) (h : i + n ≤ L.length) (u : World) : Sem.run Tryd.prog (Instr.slice 9 (.string (strN L)) (some (.int .i64 (i : Int))) (some (.int .i64 ((i : Int) + (n : Int)))) none) u = .ok (.string (strN ((L.drop i).take n))) u := by
  rw [run_slice_string u 9 (strN L) .i64 .i64 _ _ Tryd.underlying9 (by omega) (by omega) (by rw [strN_size]; omega)]
  rw [← strN_mid]
  congr 2
end Go.Proofs.YtkinpbhbgeiflaaDoor.Rq
