/- Sums compared; the head of layer 1's statements. -/
import Derived.Test.YtpaijhmbfljfmaaDoorSt
import Derived.Test.YtpaijhmbfljfmaaDoorSabc
import Derived.Test.YtpaijhmbfljfmaaDoorSv
import Derived.ChangeKeysEq
import Derived.Lib.SlBytesConst
namespace Go.Proofs.YtpaijhmbfljfmaaDoor.Sg
set_option linter.unusedVariables false
set_option linter.unusedSimpArgs false
set_option maxRecDepth 100000
open Go.ChangeShapes Go.WideShapes Go.ChangeAt Go.RowKit
open Go.Proofs.YtpaijhmbfljfmaaDoor.Wu Go.Proofs.YtpaijhmbfljfmaaDoor.Sm Go.Proofs.YtpaijhmbfljfmaaDoor.Sk Go.Proofs.YtpaijhmbfljfmaaDoor.Sc Go.Proofs.YtpaijhmbfljfmaaDoor.Sxa Go.Proofs.YtpaijhmbfljfmaaDoor.Sh Go.Proofs.YtpaijhmbfljfmaaDoor.Sn Go.Proofs.YtpaijhmbfljfmaaDoor.Sw0 Go.Proofs.YtpaijhmbfljfmaaDoor.Sx Go.Proofs.YtpaijhmbfljfmaaDoor.Sw Go.Proofs.YtpaijhmbfljfmaaDoor.Sb Go.Proofs.YtpaijhmbfljfmaaDoor.Sf Go.Proofs.YtpaijhmbfljfmaaDoor.So Go.Proofs.YtpaijhmbfljfmaaDoor.Su Go.Proofs.YtpaijhmbfljfmaaDoor.St

theorem und_u8 : Tryd.prog.underlying 5 = some (.int .u8) := Tryd.underlying5
theorem cells_u8 : Tryd.prog.cellsOf 5 = 1 := by kernel_rfl
theorem part_u8 (X : List Nat) (i : Nat) (h : i < X.length) (u : World) : Sem.run Tryd.prog (part 5 (u8s X) i) u = .ok (.int .u8 ((X.getD i 0 : Nat) : Int)) u := by
  have e : (u8s X)[i]? = some (.int .u8 ((X.getD i 0 : Nat) : Int)) := u8s_at X i h
  simp [part, e, size_u8, go_sem]
theorem items_u8 (d : Nat) (X Y : List Nat) (u : World) : ∀ is : List Nat, (∀ i ∈ is, i < X.length ∧ i < Y.length) →
    Sem.run Tryd.prog (Op.eqItems (d + 1) 5 1 (u8s X) (u8s Y) is) u = .ok (is.all fun i => X.getD i 0 == Y.getD i 0) u
  | [], _ => by simp [Op.eqItems]
  | i :: is, h => by
    have hi := h i (List.mem_cons_self ..)
    simp only [Op.eqItems, Sem.run_bind, Nat.mul_one, part_u8 X i hi.1, part_u8 Y i hi.2, Result.andThen_ok, run_equalIn_int u d 5 .u8 .u8 _ _ und_u8]
    rw [List.all_cons]
    by_cases he : X.getD i 0 = Y.getD i 0
    · rw [he]
      simp only [BEq.rfl, Bool.not_true, Bool.false_eq_true, if_false, Bool.true_and]
      exact items_u8 d X Y u is fun j hj => h j (List.mem_cons_of_mem _ hj)
    · have e1 : (((X.getD i 0 : Nat) : Int) == ((Y.getD i 0 : Nat) : Int)) = false := by simp only [beq_eq_false_iff_ne]; omega
      have e2 : (X.getD i 0 == Y.getD i 0) = false := by simpa using he
      rw [e1, e2]
      simp
theorem all_range (X Y : List Nat) (h : X.length = 32) (h' : Y.length = 32) : ((List.range 32).all fun i => X.getD i 0 == Y.getD i 0) = decide (X = Y) := by
  rw [Bool.eq_iff_iff]
  simp only [List.all_eq_true, List.mem_range, beq_iff_eq, decide_eq_true_eq]
  constructor
  · intro hh
    apply List.ext_getElem (by omega)
    intro i h1 h2
    have := hh i (by omega)
    simpa [List.getD, h1, h2] using this
  · rintro rfl i _; rfl
/-- Two sums, compared. -/
theorem sum_eq (X Y : List Nat) (hX : X.length = 32) (hY : Y.length = 32) (u : World) :
    Sem.run Tryd.prog (Op.equalIn 10000 27 (.agg (u8s X)) (.agg (u8s Y))) u = .ok (decide (X = Y)) u := by
  obtain ⟨i, hi, _⟩ := Option.map_eq_some_iff.1 info_u8s
  rw [run_equalIn_array (P := Tryd.prog) u 9999 (t := 27) (e := 5) (n := 32) (i := i) (u8s X) (u8s Y) Tryd.underlying27 hi, cells_u8, items_u8 9998 X Y u (List.range 32) (fun i hi => by rw [List.mem_range] at hi; omega), all_range X Y hX hY]
theorem sum_same (X : List Nat) (hX : X.length = 32) (u : World) : Sem.run Tryd.prog (Op.equalIn 10000 27 (.agg (u8s X)) (.agg (u8s X))) u = .ok true u := by
  rw [sum_eq X X hX hX]; simp
theorem parts_two {w : World} {B : Nat} {T : TypeId} {a a' : Option Addr} {m c m' c' : Nat} {L L' : List Nat} (hs : SrcB w a m L) (hc : m ≤ c) (hs' : SrcB w a' m' L') (hc' : m' ≤ c') (hw : w.heap[B]? = some (.cells #[.slice a m c, .slice a' m' c'] T (0, 0))) :
    Parts w (some ⟨B, 0, none⟩) [⟨a, m, c, L⟩, ⟨a', m', c', L'⟩] := by
  refine ⟨B, 0, fun _ => rfl, fun i p hp => ?_⟩
  match i, hp with
  | 0, hp =>
    simp only [List.getElem?_cons_zero, Option.some.injEq] at hp
    subst hp
    exact ⟨blk_cell hw rfl, hs, hc⟩
  | 1, hp =>
    simp only [List.getElem?_cons_succ, List.getElem?_cons_zero, Option.some.injEq] at hp
    subst hp
    exact ⟨blk_cell hw rfl, hs', hc'⟩
theorem flat_two (a a' : Option Addr) (m c m' c' : Nat) (L L' : List Nat) : flat [⟨a, m, c, L⟩, ⟨a', m', c', L'⟩] = L ++ L' := by simp [flat]
theorem text_abc : strN (textL (sha [97, 98, 99])) = ⟨#[98, 97, 55, 56, 49, 54, 98, 102, 56, 102, 48, 49, 99, 102, 101, 97, 52, 49, 52, 49, 52, 48, 100, 101, 53, 100, 97, 101, 50, 50, 50, 51, 98, 48, 48, 51, 54, 49, 97, 51, 57, 54, 49, 55, 55, 97, 57, 99, 98, 52, 49, 48, 102, 102, 54, 49, 102, 50, 48, 48, 49, 53, 97, 100]⟩ := by
  rw [Sabc.sha_abc]
  kernel_rfl
set_option maxHeartbeats 1600000 in
set_option maxRecDepth 100000 in
theorem known_c (w : World) (hT : Tbl w) (hF : Fst w) :
    Calls Tryd.prog 15 #[] w fun e w' => e = .returned (.bool true) ∧ Below w.heap.size w w' := by
  have HT := hide hT
  have HF := hide hF
  clear hT hF
  have kc := fun (w : World) (C : Array Value) (n c : Nat) => Lib.run_convert_bytes_const (P := Tryd.prog) w 31 5 C n c Tryd.underlying31 Tryd.underlying5
  have kc2 := kc (w.alloc (.cells #[.int .u8 97, .int .u8 98] 5 (2, 3))) #[.int .u8 99] 1 1
  simp only [World.size_alloc] at kc2
  have H2 := hide (heap_old (heap_2a w (.cells #[.int .u8 97, .int .u8 98] 5 (2, 3)) (.cells #[.int .u8 99] 5 (1, 2))) (.cells #[.slice (some ⟨w.heap.size, 0, none⟩) 2 2, .slice (some ⟨w.heap.size + 1, 0, none⟩) 1 1] 31))
  have H3 := hide (heap_old (heap_2b w (.cells #[.int .u8 97, .int .u8 98] 5 (2, 3)) (.cells #[.int .u8 99] 5 (1, 2))) (.cells #[.slice (some ⟨w.heap.size, 0, none⟩) 2 2, .slice (some ⟨w.heap.size + 1, 0, none⟩) 1 1] 31))
  have H4 := hide (heap_3c w (.cells #[.int .u8 97, .int .u8 98] 5 (2, 3)) (.cells #[.int .u8 99] 5 (1, 2)) (.cells #[.slice (some ⟨w.heap.size, 0, none⟩) 2 2, .slice (some ⟨w.heap.size + 1, 0, none⟩) 1 1] 31))
  have HB := hide ((((Below.refl w.heap.size w).alloc (Nat.le_refl _) (.cells #[.int .u8 97, .int .u8 98] 5 (2, 3))).alloc (by simp) (.cells #[.int .u8 99] 5 (1, 2))).alloc (by simp; omega) (.cells #[.slice (some ⟨w.heap.size, 0, none⟩) 2 2, .slice (some ⟨w.heap.size + 1, 0, none⟩) 1 1] 31))
  go_enter Tryd.func15, Tryd.ntmps15
  go_wp2_with fail
  clear kc kc2
  generalize (((w.alloc (.cells #[.int .u8 97, .int .u8 98] 5 (2, 3))).alloc (.cells #[.int .u8 99] 5 (1, 2))).alloc (.cells #[.slice (some ⟨w.heap.size, 0, none⟩) 2 2, .slice (some ⟨w.heap.size + 1, 0, none⟩) 1 1] 31)) = w1 at *
  have s1 : SrcB w1 (some ⟨w.heap.size, 0, none⟩) 2 [97, 98] := by
    refine ⟨rfl, by intro z hz; simp only [List.mem_cons, List.not_mem_nil, or_false] at hz; omega, w.heap.size, 0, fun _ => rfl, fun i hi => ?_⟩
    match i, hi with
    | 0, _ => exact blk_cell H2.out rfl
    | 1, _ => exact blk_cell H2.out rfl
  have s2 : SrcB w1 (some ⟨w.heap.size + 1, 0, none⟩) 1 [99] := by
    refine ⟨rfl, by intro z hz; simp only [List.mem_cons, List.not_mem_nil, or_false] at hz; omega, w.heap.size + 1, 0, fun _ => rfl, fun i hi => ?_⟩
    match i, hi with
    | 0, _ => exact blk_cell H3.out rfl
  have HP := hide (parts_two s1 (Nat.le_refl _) s2 (Nat.le_refl _) H4.out)
  clear s1 s2
  refine (of_c _ _ _ w1 HP.out (tbl_keep HT.out HB.out (Nat.le_refl _)) (fst_keep HF.out HB.out (Nat.le_refl _)) (by simp [flat]) (by simp)).mono ?_
  rintro e w2 ⟨rfl, hb2⟩
  have HB2 := hide (keepB hb2 (Nat.le_refl _) HB.out)
  clear hb2 HP H2 H3 H4 HB
  rw [flat_two, show [97, 98] ++ [99] = [97, 98, 99] from rfl]
  go_wp2_with fail
  refine (text_c _ w2 (sha_length _) (all8_sha _)).mono ?_
  rintro e w3 ⟨rfl, hb3⟩
  have HB3 := hide (keepB hb3 (Nat.le_refl _) HB2.out)
  clear hb3 HB2
  rw [text_abc]
  go_wp2
  go_ret
  exact ⟨rfl, HB3.out⟩
end Go.Proofs.YtpaijhmbfljfmaaDoor.Sg
