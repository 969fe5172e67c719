/- Text: a sum's digits. -/
import Derived.Test.YtheambpddpfcfaaDoorSu
import Derived.Laws.BytesArg
namespace Go.Proofs.YtheambpddpfcfaaDoor.St
set_option linter.unusedVariables false
set_option linter.unusedSimpArgs false
set_option maxRecDepth 100000
open Go.ChangeShapes Go.WideShapes Go.ChangeAt Go.RowKit
open Go.Proofs.YtheambpddpfcfaaDoor.Wu Go.Proofs.YtheambpddpfcfaaDoor.Sm Go.Proofs.YtheambpddpfcfaaDoor.Sk Go.Proofs.YtheambpddpfcfaaDoor.Sc Go.Proofs.YtheambpddpfcfaaDoor.Sxa Go.Proofs.YtheambpddpfcfaaDoor.Sh Go.Proofs.YtheambpddpfcfaaDoor.Sn Go.Proofs.YtheambpddpfcfaaDoor.Sw0 Go.Proofs.YtheambpddpfcfaaDoor.Sx Go.Proofs.YtheambpddpfcfaaDoor.Sw Go.Proofs.YtheambpddpfcfaaDoor.Sb Go.Proofs.YtheambpddpfcfaaDoor.Sf Go.Proofs.YtheambpddpfcfaaDoor.So

/-- A text of bytes. -/
def strN (L : List Nat) : ByteArray := strOfNums (L.map fun x : Nat => (x : Int))
/-- A digit to the base sixteen. -/
def dg (d : Nat) : Nat := [48, 49, 50, 51, 52, 53, 54, 55, 56, 57, 97, 98, 99, 100, 101, 102].getD d 0
def textL (X : List Nat) : List Nat := X.flatMap fun x => [dg (x / 16), dg (x % 16)]
theorem dg_lt (d : Nat) : dg d < 256 := by
  unfold dg
  by_cases h : d < 16
  · have : ∀ d : Fin 16, [48, 49, 50, 51, 52, 53, 54, 55, 56, 57, 97, 98, 99, 100, 101, 102].getD d.1 0 < 256 := by decide
    exact this ⟨d, h⟩
  · rw [List.getD, List.getElem?_eq_none (by simp; omega)]; decide
theorem hex_at (d : Nat) (hd : d < 16) (u : World) : Sem.run Tryd.prog (Instr.index 9 (.string ⟨#[48, 49, 50, 51, 52, 53, 54, 55, 56, 57, 97, 98, 99, 100, 101, 102]⟩) (.int .u8 (d : Int))) u = .ok (.int .u8 (dg d : Int)) u := by
  have h : d = 0 ∨ d = 1 ∨ d = 2 ∨ d = 3 ∨ d = 4 ∨ d = 5 ∨ d = 6 ∨ d = 7 ∨ d = 8 ∨ d = 9 ∨ d = 10 ∨ d = 11 ∨ d = 12 ∨ d = 13 ∨ d = 14 ∨ d = 15 := by omega
  rcases h with rfl | rfl | rfl | rfl | rfl | rfl | rfl | rfl | rfl | rfl | rfl | rfl | rfl | rfl | rfl | rfl <;> (show _ = _; kernel_rfl)
theorem hex_get (d : Nat) (h : d < (ByteArray.mk #[48, 49, 50, 51, 52, 53, 54, 55, 56, 57, 97, 98, 99, 100, 101, 102]).size) : (ByteArray.mk #[48, 49, 50, 51, 52, 53, 54, 55, 56, 57, 97, 98, 99, 100, 101, 102])[d].toNat = dg d := by
  have h16 : d < 16 := h
  have : ∀ d : Fin 16, (ByteArray.mk #[48, 49, 50, 51, 52, 53, 54, 55, 56, 57, 97, 98, 99, 100, 101, 102])[d.1].toNat = dg d.1 := by decide
  exact this ⟨d, h16⟩
theorem alS : Tryd.prog.underlying 61 = some (.array 32 5) := Tryd.underlying61
theorem index_rowS (X : List Nat) (k : Nat) (hX : X.length = 32) (hk : k < 32) (u : World) : Sem.run Tryd.prog (Instr.index 61 (.agg (u8s X)) (.int .i64 (k : Int))) u = .ok (.int .u8 ((X.getD k 0 : Nat) : Int)) u := by
  simp only [Instr.index, Sem.run_bind, asIntOf, Sem.run_pure, Result.andThen_ok, run_underlying alS]
  rw [if_pos (by omega)]
  simp only [Sem.run_bind, size_u8, Result.andThen_ok, Int.toNat_natCast, Nat.mul_one]
  have e : (u8s X)[k]? = some (.int .u8 ((X.getD k 0 : Nat) : Int)) := u8s_at X k (by omega)
  simp [part, e, size_u8, go_sem]
/-- The row behind k bytes. -/
def textR (X : List Nat) (k : Nat) : List Nat := textL (X.take k) ++ zeros (64 - 2 * k)
theorem textL_length (X : List Nat) : (textL X).length = 2 * X.length := by
  induction X with
  | nil => rfl
  | cons x l ih => simp only [textL, List.flatMap_cons, List.length_append, List.length_cons, List.length_nil] at *; omega
theorem textR_length (X : List Nat) (k : Nat) (hX : X.length = 32) (hk : k ≤ 32) : (textR X k).length = 64 := by
  rw [textR, List.length_append, textL_length, List.length_take, hX, zeros_length]; omega
theorem textR_step (X : List Nat) (k : Nat) (hX : X.length = 32) (hk : k < 32) : ((textR X k).set (2 * k) (dg (X.getD k 0 / 16))).set (2 * k + 1) (dg (X.getD k 0 % 16)) = textR X (k + 1) := by
  have h1 : (textL (X.take k)).length = 2 * k := by rw [textL_length, List.length_take, hX]; omega
  have e1 : X.take (k + 1) = X.take k ++ [X.getD k 0] := by
    rw [List.take_succ_eq_append_getElem (by omega)]; simp [List.getD, show k < X.length by omega]
  have e2 : textL (X.take (k + 1)) = textL (X.take k) ++ [dg (X.getD k 0 / 16), dg (X.getD k 0 % 16)] := by rw [e1]; simp [textL]
  have e3 : zeros (64 - 2 * k) = 0 :: 0 :: zeros (64 - 2 * (k + 1)) := by
    rw [show 64 - 2 * k = (64 - 2 * (k + 1)) + 1 + 1 by omega]; rfl
  unfold textR
  rw [e2, e3, List.set_append_right _ _ (by omega), h1, Nat.sub_self, List.set_cons_zero, List.set_append_right _ _ (by omega), h1, show 2 * k + 1 - 2 * k = 1 by omega]
  simp
theorem textR_end (X : List Nat) (hX : X.length = 32) : textR X 32 = textL X := by
  unfold textR; rw [List.take_of_length_le (by omega)]; simp [zeros]
theorem sliceAll64 (u : World) (B : Nat) :
    Sem.run Tryd.prog (Instr.sliceAt 173 (.pointer (some ⟨B, 0, none⟩)) none none none) u = .ok (.slice (some ⟨B, 0, none⟩) 64 64) u := by
  rw [run_sliceAt_array_all u 173 ⟨B, 0, none⟩ (by rw [alen64, aelem64]; exact Tryd.underlying173), aelem64, size_u8, alen64]
  simp only [Result.andThen, slicedAt, Nat.mul_one]
  rw [if_neg (by omega), Addr.add_mid]
theorem conv_row {w : World} {B off n cap : Nat} {L : List Nat} (hl : L.length = n) (hc : ∀ i, i < n → w.cell? ⟨B, off + i, none⟩ = some (.int .u8 ((L.getD i 0 : Nat) : Int))) :
    Sem.run Tryd.prog (convert 22 9 (.slice (some ⟨B, off, none⟩) n cap)) w = .ok (.string (strN L)) w :=
  run_convert_bytes_arg w 22 5 Tryd.underlying22 Tryd.underlying5 B off n cap (L.map fun x : Nat => (x : Int)) (by simp [hl]) (fun i hi => by
    rw [hc i hi]; simp [List.getD, List.getElem?_eq_getElem (show i < L.length by omega)]) 9 Tryd.underlying9
theorem zlit64 : (#[Value.int IntKind.u8 0, Value.int IntKind.u8 0, Value.int IntKind.u8 0, Value.int IntKind.u8 0, Value.int IntKind.u8 0, Value.int IntKind.u8 0, Value.int IntKind.u8 0, Value.int IntKind.u8 0, Value.int IntKind.u8 0, Value.int IntKind.u8 0, Value.int IntKind.u8 0, Value.int IntKind.u8 0, Value.int IntKind.u8 0, Value.int IntKind.u8 0, Value.int IntKind.u8 0, Value.int IntKind.u8 0, Value.int IntKind.u8 0, Value.int IntKind.u8 0, Value.int IntKind.u8 0, Value.int IntKind.u8 0, Value.int IntKind.u8 0, Value.int IntKind.u8 0, Value.int IntKind.u8 0, Value.int IntKind.u8 0, Value.int IntKind.u8 0, Value.int IntKind.u8 0, Value.int IntKind.u8 0, Value.int IntKind.u8 0, Value.int IntKind.u8 0, Value.int IntKind.u8 0, Value.int IntKind.u8 0, Value.int IntKind.u8 0, Value.int IntKind.u8 0, Value.int IntKind.u8 0, Value.int IntKind.u8 0, Value.int IntKind.u8 0, Value.int IntKind.u8 0, Value.int IntKind.u8 0, Value.int IntKind.u8 0, Value.int IntKind.u8 0, Value.int IntKind.u8 0, Value.int IntKind.u8 0, Value.int IntKind.u8 0, Value.int IntKind.u8 0, Value.int IntKind.u8 0, Value.int IntKind.u8 0, Value.int IntKind.u8 0, Value.int IntKind.u8 0, Value.int IntKind.u8 0, Value.int IntKind.u8 0, Value.int IntKind.u8 0, Value.int IntKind.u8 0, Value.int IntKind.u8 0, Value.int IntKind.u8 0, Value.int IntKind.u8 0, Value.int IntKind.u8 0, Value.int IntKind.u8 0, Value.int IntKind.u8 0, Value.int IntKind.u8 0, Value.int IntKind.u8 0, Value.int IntKind.u8 0, Value.int IntKind.u8 0, Value.int IntKind.u8 0, Value.int IntKind.u8 0] : Array Value) = u8s (zeros 64) := by rfl
end Go.Proofs.YtheambpddpfcfaaDoor.St
