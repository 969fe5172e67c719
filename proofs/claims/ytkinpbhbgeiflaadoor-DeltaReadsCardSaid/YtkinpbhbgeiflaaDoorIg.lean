/- slices.Insert on bytes: a new row. -/
import Derived.Test.YtkinpbhbgeiflaaDoorIs
namespace Go.Proofs.YtkinpbhbgeiflaaDoor.Ig
set_option linter.unusedVariables false
set_option linter.unusedSimpArgs false
set_option maxRecDepth 100000
open Go.ChangeShapes Go.WideShapes Go.ChangeAt Go.RowKit
open Go.Proofs.YtkinpbhbgeiflaaDoor.Wu Go.Proofs.YtkinpbhbgeiflaaDoor.Sm Go.Proofs.YtkinpbhbgeiflaaDoor.Sh Go.Proofs.YtkinpbhbgeiflaaDoor.Ba Go.Proofs.YtkinpbhbgeiflaaDoor.Bp Go.Proofs.YtkinpbhbgeiflaaDoor.Bz Go.Proofs.YtkinpbhbgeiflaaDoor.Is
theorem Dst.take {w : World} {g n cap i : Nat} {A S : List Nat} (h : Dst w g n cap (A ++ S)) (hi : A.length = i) : Dst w g i cap A := by
  have hl := h.len
  rw [List.length_append] at hl
  have hf := h.fit
  refine ⟨hi, fun x hx => h.all x (List.mem_append_left _ hx), by omega, h.max, h.lt, fun j v hv => ?_, fun j hj => ⟨?_, h.free _⟩, h.free⟩
  · have hj : j < (b8 A).length := (List.getElem?_eq_some_iff.1 hv).1
    exact h.cells j v (by unfold b8 at hv hj ⊢; rw [List.map_append, List.getElem?_append_left hj]; exact hv)
  · exact Dst.all_there h _ (by omega)
set_option maxHeartbeats 4000000 in
set_option maxRecDepth 100000 in
theorem insert_grow (g n cap i vb m vc : Nat) (A S V : List Nat) (w : World) (hd : Dst w g n cap (A ++ S)) (hv : Dst w vb m vc V) (hm : 0 < m) (hi : A.length = i) (hlt : i < n) (hroom : cap < n + m) (hbig : n + m ≤ 70368744177664) :
    Calls Tryd.prog 119 #[.slice (some ⟨g, 0, none⟩) n cap, .int .i64 (i : Int), .slice (some ⟨vb, 0, none⟩) m vc] w fun e w' =>
      ∃ cap' w1 d1 d2, e = .returned (.slice (some ⟨w.heap.size, 0, none⟩) (n + m) cap') ∧ Dst w1 w.heap.size (n + m) cap' (A ++ List.replicate (n + m - i) 0) ∧ Below w.heap.size w w1 ∧ w' = (((w1.drewN d1).setCells w.heap.size i (b8 V)).drewN d2).setCells w.heap.size (i + m) (b8 S) := by
  have hl := hd.len
  rw [List.length_append] at hl
  have hf := hd.fit
  obtain ⟨g', cap', w1, hr, hd1, hg, hgg⟩ := append_zeros w 22 g i cap A (n + m - i) (Dst.take hd hi) (by omega)
  rw [show i + (n + m - i) = n + m by omega] at hr hd1 hgg
  obtain ⟨rfl, hbl⟩ : g' = w.heap.size ∧ Below w.heap.size w w1 := by
    rcases hgg with ⟨_, h⟩ | h
    · omega
    · exact h
  clear hg
  have hc' := hd1.max
  have hcf := hd1.fit
  unfold maxLen at hc'
  have hmx := hd.max
  unfold maxLen at hmx
  have hri : ∀ ty, (Builtin.append_ #[22, 3] ty #[.slice (some ⟨g, 0, none⟩) i cap, .int .i64 ((n : Int) + (m : Int) - (i : Int))]).run Tryd.prog w = .ok (.slice (some ⟨w.heap.size, 0, none⟩) (n + m) cap') w1 := by
    intro ty
    rw [show (n : Int) + (m : Int) - (i : Int) = ((n + m - i : Nat) : Int) by omega]
    exact hr
  have HR := hide hri
  have HD1 := hide hd1
  have HG := hide hbl
  clear hri hr hd1 hbl hgg
  have HD := hide hd
  have HVd := hide hv
  have hvl := hv.len
  have HS1 := hide (hd.below HG.out hd.lt)
  have HV1 := hide (hv.below HG.out hv.lt)
  have hgl := hd.lt
  have hvlt := hv.lt
  clear hd hv
  have HCA : Hid (∀ ty dc, (Builtin.copy_ #[22, 22] ty #[.slice (some ⟨w.heap.size, i, none⟩) (n + m - i) dc, .slice (some ⟨vb, 0, none⟩) m vc]).run Tryd.prog w1 = .ok (goInt (b8 V).length) (w1.setCells w.heap.size i (b8 V))) := hide (fun ty dc => by
    refine run_copy_cells _ _ _ ty 5 w.heap.size i (n + m - i) dc ⟨vb, 0, none⟩ m vc (b8 V) Tryd.underlying22 sz1 ?_ ?_ ?_ ?_ (b8_one V)
    · rw [b8_length]; simp only [Nat.min_def]; split <;> omega
    · intro j v hj
      rw [Addr.add_lit]
      exact HV1.out.cells j v hj
    · intro j hj
      rw [b8_length] at hj
      exact Dst.all_there HD1.out _ (by omega)
    · intro j hj
      exact HD1.out.free _)
  have HCB : Hid (∀ ty dc sc, (Builtin.copy_ #[22, 22] ty #[.slice (some ⟨w.heap.size, i + m, none⟩) (n + m - (i + m)) dc, .slice (some ⟨g, i, none⟩) (n - i) sc]).run Tryd.prog (w1.setCells w.heap.size i (b8 V)).drew = .ok (goInt (b8 S).length) ((w1.setCells w.heap.size i (b8 V)).drew.setCells w.heap.size (i + m) (b8 S))) := hide (fun ty dc sc => by
    refine run_copy_cells _ _ _ ty 5 w.heap.size (i + m) (n + m - (i + m)) dc ⟨g, i, none⟩ (n - i) sc (b8 S) Tryd.underlying22 sz1 ?_ ?_ ?_ ?_ (b8_one S)
    · rw [b8_length]; simp only [Nat.min_def]; split <;> omega
    · intro j v hj
      rw [Addr.add_lit]
      show (w1.setCells w.heap.size i (b8 V)).cell? _ = _
      rw [World.cell?_setCells_out _ _ _ _ _ (fun h _ => absurd h (by simp only; omega))]
      have := HS1.out.cells (i + j) v (by
        unfold b8 at hj ⊢
        rw [List.map_append, List.getElem?_append_right (by simp; omega)]
        rw [← hj]
        congr 1
        simp
        omega)
      rwa [Nat.zero_add] at this
    · intro j hj
      rw [b8_length] at hj
      show ((w1.setCells w.heap.size i (b8 V)).cell? _).isSome = true
      exact isSome_setCells _ _ _ _ (fun j' hj' => by rw [b8_length] at hj'; exact Dst.all_there HD1.out _ (by omega)) _ (Dst.all_there HD1.out _ (by omega))
    · intro j hj
      show (w1.setCells w.heap.size i (b8 V)).frozen? _ = _
      rw [World.frozen?_setCells]
      exact HD1.out.free _)
  have e1 : ¬ ((m : Int) = 0) := by omega
  have e2 : ¬ ((i : Int) = (n : Int)) := by omega
  have e3 : (cap : Int) < (n : Int) + (m : Int) := by omega
  have e4 : IntKind.i64.wrap ((i : Int) + (m : Int)) = (i : Int) + (m : Int) := by rw [IntKind.wrap_i64]; omega
  have e5 : (0 : Int) ≤ (i : Int) + (m : Int) := by omega
  have e6 : ((i : Int) + (m : Int)).toNat = i + m := by omega
  have e7 : ¬ (cap' = i + m) := by omega
  have e8 : ¬ (cap' = i) := by omega
  have e8' : ¬ (cap = i) := by omega
  have e9 : (i : Int) ≤ (n : Int) := by omega
  have e10 : i ≤ n := by omega
  go_enter Tryd.func119, Tryd.ntmps119
  go_wp2_with (at_builtin; refine Lib.wpList_append_run _ rfl _ _ _ _ rfl _ _ rfl rfl _ _ (HR.out _) ?_)
  rw [HCA.out]
  go_wp2_with fail
  have mixed : Tryd.prog.follows Departure.mixedOrders = true := by kernel_rfl
  have hcb := HCB.out 3 (cap' - (i + m)) (cap - i)
  go_region
  clear hcb
  go_wp2
  go_ret
  exact ⟨cap', w1, 0, 1, rfl, HD1.out, HG.out, rfl⟩
end Go.Proofs.YtkinpbhbgeiflaaDoor.Ig
