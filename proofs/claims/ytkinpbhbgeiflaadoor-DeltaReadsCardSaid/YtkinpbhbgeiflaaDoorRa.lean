/- The reference's reader (layer 3): fail, Byte. -/
import Derived.Test.YtkinpbhbgeiflaaDoorQg
import Derived.Test.YtkinpbhbgeiflaaDoorCr
namespace Go.Proofs.YtkinpbhbgeiflaaDoor.Ra
set_option linter.unusedVariables false
set_option linter.unusedSimpArgs false
set_option maxRecDepth 100000
open Go.ChangeShapes Go.WideShapes Go.ChangeAt Go.RowKit
open Go.Proofs.YtkinpbhbgeiflaaDoor.Wu Go.Proofs.YtkinpbhbgeiflaaDoor.Sm Go.Proofs.YtkinpbhbgeiflaaDoor.Sh Go.Proofs.YtkinpbhbgeiflaaDoor.Ba Go.Proofs.YtkinpbhbgeiflaaDoor.Bs Go.Proofs.YtkinpbhbgeiflaaDoor.Cr
/-- The reference's reader over the bytes L. -/
abbrev qv (L : List Nat) (at_ code bad : Int) : Value := .agg #[.string (strN L), .int .i64 at_, .int .i64 code, .int .i64 bad]
theorem range4 {W : World} {b : Nat} {x y z t : Value} {T : TypeId} {f : Nat × Nat} (h : W.heap[b]? = some (.cells #[x, y, z, t] T f)) : W.rangeAt b 0 [x, y, z, t] := by
  intro j v hv
  rw [Nat.zero_add]
  refine blk_cell h ?_
  simpa using hv
theorem load4 {W : World} {b : Nat} {x y z t : Value} {T : TypeId} {f : Nat × Nat} (h : W.heap[b]? = some (.cells #[x, y, z, t] T f)) : Sem.run Tryd.prog (loadVar 141 ⟨b, 0, none⟩) W = .ok (.agg #[x, y, z, t]) W :=
  run_loadVar_mid (P := Tryd.prog) W b 0 141 [x, y, z, t] _ (range4 h) Tryd.underlying141 rfl (by kernel_rfl)
theorem below2 (w : World) (o p : Obj) : Below w.heap.size w ((w.alloc o).alloc p) := ((Below.refl _ w).alloc (Nat.le_refl _) _).alloc (by simp) _
theorem fail_c (L : List Nat) (at_ code bad x y : Int) (w : World) :
    Calls Tryd.prog 101 #[qv L at_ code bad, .int .i64 x, .int .i64 y] w fun e w' => e = .returned (qv L at_ y x) ∧ Below w.heap.size w w' := by
  go_enter Tryd.func101, Tryd.ntmps101
  go_wp2
  have HL := load4 (heap_2b w (.cells #[.string (strN L), .int .i64 at_, .int .i64 y, .int .i64 x] 141) (.cells #[.string (strN L), .int .i64 at_, .int .i64 y, .int .i64 x] 141))
  refine bodyPost_ret (v := qv L at_ y x) ?_ rfl ⟨rfl, below2 _ _ _⟩
  simp [results, Tryd.results101, HL, asAddr]
theorem byte_no (L : List Nat) (at_ code bad : Int) (w : World) (h : (code != 0) = true) :
    Calls Tryd.prog 100 #[qv L at_ code bad] w fun e w' => e = .returned (.tuple #[qv L at_ code bad, .int .i64 0]) ∧ Below w.heap.size w w' := by
  go_enter Tryd.func100, Tryd.ntmps100
  go_wp2
  have HL := load4 (heap_2b w (.cells #[.string (strN L), .int .i64 at_, .int .i64 code, .int .i64 bad] 141) (.cells #[.string (strN L), .int .i64 at_, .int .i64 code, .int .i64 bad] 141))
  refine bodyPost_ret (v := .tuple #[qv L at_ code bad, .int .i64 0]) ?_ rfl ⟨rfl, below2 _ _ _⟩
  simp [results, Tryd.results100, HL, asAddr]
theorem set4 {W : World} {b : Nat} {x y z t : Value} {T : TypeId} {f : Nat × Nat} (h : W.heap[b]? = some (.cells #[x, y, z, t] T f)) (x' y' z' t' : Value) : ((((W.setCell ⟨b, 0, none⟩ x').setCell ⟨b, 1, none⟩ y').setCell ⟨b, 2, none⟩ z').setCell ⟨b, 3, none⟩ t').heap[b]? = some (.cells #[x', y', z', t'] T f) := by
  have := blk_set (i := 3) (blk_set (i := 2) (blk_set (i := 1) (blk_set (i := 0) h x') y') z') t'
  rw [this]
  simp
theorem grown4 (W : World) (b : Nat) (x' y' z' t' : Value) : W.grownBy ((((W.setCell ⟨b, 0, none⟩ x').setCell ⟨b, 1, none⟩ y').setCell ⟨b, 2, none⟩ z').setCell ⟨b, 3, none⟩ t') (some b) := grown_setCell (grown_setCell (grown_setCell (grown_setCell (World.grownBy.refl W (some b)) 0 _) 1 _) 2 _) 3 _
/-- The eight facts of a block of four cells. -/
theorem blk4 {w : World} {B : Nat} {x y z t : Value} {T : TypeId} (h : w.heap[B]? = some (.cells #[x, y, z, t] T (0, 0))) :
    w.cell? ⟨B, 0, none⟩ = some x ∧ w.cell? ⟨B, 1, none⟩ = some y ∧ w.cell? ⟨B, 2, none⟩ = some z ∧ w.cell? ⟨B, 3, none⟩ = some t ∧ w.frozen? ⟨B, 0, none⟩ = false ∧ w.frozen? ⟨B, 1, none⟩ = false ∧ w.frozen? ⟨B, 2, none⟩ = false ∧ w.frozen? ⟨B, 3, none⟩ = false :=
  ⟨blk_cell h rfl, blk_cell h rfl, blk_cell h rfl, blk_cell h rfl, blk_free h, blk_free h, blk_free h, blk_free h⟩
theorem byte_end (L : List Nat) (at_ : Nat) (bad : Int) (w : World) (h : L.length ≤ at_) (hm : at_ ≤ 281474976710656) :
    Calls Tryd.prog 100 #[qv L (at_ : Int) 0 bad] w fun e w' => e = .returned (.tuple #[qv L (at_ : Int) 30 (at_ : Int), .int .i64 0]) ∧ Below w.heap.size w w' := by
  have hsz := strN_size L
  have d1 : decide ((L.length : Int) ≤ (at_ : Int)) = true := by simp; omega
  have HF := hide (fun u => fail_c L (at_ : Int) 0 bad (at_ : Int) 30 u)
  go_enter Tryd.func100, Tryd.ntmps100
  go_wp2_with fail
  refine (HF.out _).mono ?_
  rintro e w1 ⟨rfl, hb⟩
  have hB := keepB hb (Nat.le_refl _) (below2 w _ _)
  have hR := below_blk hb (by simp) (heap_2b w _ _)
  have HB := hide hB
  have HR := hide hR
  obtain ⟨c0, c1, c2, c3, f0, f1, f2, f3⟩ := blk4 hR
  clear hb hB hR HF
  go_wp2
  have HL := load4 (set4 HR.out (.string (strN L)) (.int .i64 (at_ : Int)) (.int .i64 30) (.int .i64 (at_ : Int)))
  refine bodyPost_ret (v := .tuple #[qv L (at_ : Int) 30 (at_ : Int), .int .i64 0]) ?_ rfl ⟨rfl, belowG HB.out (grown4 w1 (w.heap.size + 1) _ _ _ _) (by omega) HB.out.size⟩
  simp [results, Tryd.results100, HL, asAddr]
theorem strN_at {L : List Nat} (h8 : All8 L) (i : Nat) (h : i < (strN L).size) : ((strN L)[i]'h).toNat = L.getD i 0 := by
  have hl : i < L.length := by rw [strN_size] at h; exact h
  have h2 := all8_getD h8 i
  have e : (strN L)[i]'h = UInt8.ofNat (L.getD i 0) := by
    show (strN L).data[i]'_ = _
    simp [strN, strOfNums, List.getD, hl]
  rw [e, UInt8.toNat_ofNat']
  omega
theorem byte_ok (L : List Nat) (at_ : Nat) (bad : Int) (w : World) (h8 : All8 L) (h : at_ < L.length) (hm : L.length ≤ 281474976710656) :
    Calls Tryd.prog 100 #[qv L (at_ : Int) 0 bad] w fun e w' => e = .returned (.tuple #[qv L ((at_ + 1 : Nat) : Int) 0 bad, .int .i64 ((L.getD at_ 0 : Nat) : Int)]) ∧ Below w.heap.size w w' := by
  have hsz := strN_size L
  have d1 : decide ((L.length : Int) ≤ (at_ : Int)) = false := by simp; omega
  have HX := hide h8
  clear h8
  go_enter Tryd.func100, Tryd.ntmps100
  go_wp2
  have HL := load4 (heap_2b w (.cells #[.string (strN L), .int .i64 ((at_ : Int) + 1), .int .i64 0, .int .i64 bad] 141) (.cells #[.string (strN L), .int .i64 ((at_ : Int) + 1), .int .i64 0, .int .i64 bad] 141))
  have hx := strN_at HX.out at_ (by rw [hsz]; exact h)
  have hx8 := all8_getD HX.out at_
  refine bodyPost_ret (v := .tuple #[qv L ((at_ : Int) + 1) 0 bad, .int .i64 (wrap64 ((strN L)[at_]'(by rw [hsz]; exact h)).toNat)]) ?_ rfl ⟨?_, below2 _ _ _⟩
  · simp [results, Tryd.results100, HL, asAddr]
  · rw [hx, IntWalk.wrap64_in _ (by omega)]
    rfl
end Go.Proofs.YtkinpbhbgeiflaaDoor.Ra
