/- code.Number and code.Place at the errors that the program makes. -/
import Derived.Test.YtkinpbhbgeiflaaDoorEt
import Derived.Test.YtkinpbhbgeiflaaDoorQc
namespace Go.Proofs.YtkinpbhbgeiflaaDoor.Eu
set_option linter.unusedVariables false
set_option linter.unusedSimpArgs false
set_option maxRecDepth 100000
open Go.RowKit Go.Extern.Stop Go.Stop Go.Extern
open Go.Proofs.YtkinpbhbgeiflaaDoor.Wu Go.Proofs.YtkinpbhbgeiflaaDoor.Er Go.Proofs.YtkinpbhbgeiflaaDoor.Es Go.Proofs.YtkinpbhbgeiflaaDoor.Et Go.Proofs.YtkinpbhbgeiflaaDoor.Rk
attribute [local go_sem] kUpon_value kUpon_skip kUpon_enter

theorem idleE (p : Addr) (w : World) :
    CallsD Tryd.prog 84 #[.pointer (some p)] .returning w fun e u' w' => e = .returned (.tuple #[]) ∧ u' = .returning ∧ w' = w := by
  refine callsD_of_wpS Tryd.func84 rfl fun c₀ cs hu => ?_
  apply wpS_seq
  apply wpS_region
  simp [wpOpsS, go_sem, recoverD, hu, Tryd.ntmps84, Exit.thenS]
  refine wpS_cond (t := false) (by simp [Act.eval, Array.replicate]) ?_
  simp only [Bool.false_eq_true, if_false]
  refine wpS_of_wp (wp_skip ?_)
  cases c₀
  simp_all [bodyPostS, results, Tryd.results84]
theorem idleF (p : Addr) (w : World) :
    CallsD Tryd.prog 86 #[.pointer (some p)] .returning w fun e u' w' => e = .returned (.tuple #[]) ∧ u' = .returning ∧ w' = w := by
  refine callsD_of_wpS Tryd.func86 rfl fun c₀ cs hu => ?_
  apply wpS_seq
  apply wpS_region
  simp [wpOpsS, go_sem, recoverD, hu, Tryd.ntmps86, Exit.thenS]
  refine wpS_cond (t := false) (by simp [Act.eval, Array.replicate]) ?_
  simp only [Bool.false_eq_true, if_false]
  refine wpS_of_wp (wp_skip ?_)
  cases c₀
  simp_all [bodyPostS, results, Tryd.results86]
/-- The target's block and the flag's. -/
structure Fnd (w : World) (v ok : Value) (T : TypeId) (u : World) : Prop where
  t : u.heap[w.heap.size]? = some (.cells #[v] T (0, 0))
  o : u.heap[w.heap.size + 1]? = some (.cells #[ok] 4 (0, 0))
  b : Below w.heap.size w u
theorem Fnd.new (w : World) (v ok : Value) (T : TypeId) : Fnd w v ok T ((w.alloc (.cells #[v] T)).alloc (.cells #[ok] 4)) := ⟨heap_2a _ _ _, heap_2b _ _ _, ((Below.refl _ w).alloc (Nat.le_refl _) _).alloc (by simp) _⟩
theorem Fnd.hit {w u w1 : World} {v x ok : Value} {T : TypeId} (h : Fnd w v ok T u) (hb : Below u.heap.size u w1) : Fnd w x ok T (w1.setCell ⟨w.heap.size, 0, none⟩ x) :=
  ⟨by simpa using blk_set (i := 0) (below_blk hb (heap_lt h.t) h.t) x, blk_set_other (below_blk hb (heap_lt h.o) h.o) (by omega) x, (h.b.trans (hb.mono (h.b.size))).setCell (Nat.le_refl _) _⟩
theorem Fnd.up {w u w1 : World} {v ok : Value} {T : TypeId} (h : Fnd w v ok T u) (hb : Below u.heap.size u w1) : Fnd w v ok T w1 :=
  ⟨below_blk hb (heap_lt h.t) h.t, below_blk hb (heap_lt h.o) h.o, h.b.trans (hb.mono (h.b.size))⟩
theorem Fnd.flag {w u : World} {v x ok : Value} {T : TypeId} (h : Fnd w v ok T u) : Fnd w v x T (u.setCell ⟨w.heap.size + 1, 0, none⟩ x) :=
  ⟨blk_set_other h.t (by omega) x, by simpa using blk_set (i := 0) h.o x, h.b.setCell (show w.heap.size ≤ w.heap.size + 1 by omega) _⟩
theorem Fnd.tag {w u : World} {v x ok : Value} {T : TypeId} (h : Fnd w v ok T u) : Fnd w x ok T (u.setCell ⟨w.heap.size, 0, none⟩ x) :=
  ⟨by simpa using blk_set (i := 0) h.t x, blk_set_other h.o (by omega) x, h.b.setCell (Nat.le_refl _) _⟩
theorem Fnd.drew {w u : World} {v ok : Value} {T : TypeId} (h : Fnd w v ok T u) : Fnd w v ok T u.drew := ⟨h.t, h.o, h.b.drew⟩
theorem Fnd.cells {w u : World} {v ok : Value} {T : TypeId} (h : Fnd w v ok T u) : u.cell? ⟨w.heap.size, 0, none⟩ = some v ∧ u.cell? ⟨w.heap.size + 1, 0, none⟩ = some ok ∧ u.frozen? ⟨w.heap.size, 0, none⟩ = false ∧ u.frozen? ⟨w.heap.size + 1, 0, none⟩ = false := ⟨blk_cell h.t rfl, blk_cell h.o rfl, blk_free h.t, blk_free h.o⟩
/-- What 'found' answers. -/
def FoundPost (w : World) (v : Value) (ok : Bool) (e : Ending) (w' : World) : Prop := e = .returned (.tuple #[v, .bool ok]) ∧ Below w.heap.size w w'
/-- What errors.As does with a target: set to v, or left as it is. -/
def AsPost (u : World) (t : Addr) (v : Value) (ok : Bool) (e : Ending) (u' : World) : Prop := e = .returned (.bool ok) ∧ (ok = true ∧ (∃ w1, Below u.heap.size u w1 ∧ u' = w1.setCell t v) ∨ ok = false ∧ Below u.heap.size u u')
set_option maxHeartbeats 4000000 in
set_option maxRecDepth 100000 in
theorem found_E (v : Value) (n : Int) (ok : Bool) (w : World) (hz : ok = false → n = 0) (has : ∀ (t : Addr) (old : Value) (u : World), Below w.heap.size w u → u.cell? t = some old → u.frozen? t = false → Calls Tryd.prog 85 #[v, .iface 159 (.pointer (some t))] u (AsPost u t (.int .i64 n) ok)) :
    Calls Tryd.prog 40 #[v] w (FoundPost w (.int .i64 n) ok) := by
  have hmf : ∀ (fn : Fn) (first cap : Array Value) (w : World), (Instr.makeFunc fn first cap).run Tryd.prog w = .ok (.func fn first cap) w := fun _ _ _ _ => rfl
  have HA := hide has
  have HZ := hide hz
  clear has hz
  go_enter_defers Tryd.func40, Tryd.ntmps40
  go_wp2_with fail
  have F0 := hide (Fnd.new w (.int .i64 0) (.bool false) 28)
  generalize ((w.alloc (.cells #[.int .i64 0] 28)).alloc (.cells #[.bool false] 4)) = w0 at *
  refine (HA.out ⟨w.heap.size, 0, none⟩ (.int .i64 0) w0 F0.out.b F0.out.cells.1 F0.out.cells.2.2.1).mono ?_
  rintro e w' ⟨rfl, hor⟩
  have F1 : Hid (Fnd w (.int .i64 n) (.bool false) 28 w') := by
    rcases hor with ⟨_, w1, hb, rfl⟩ | ⟨hk, hb⟩
    · exact F0.out.hit hb
    · rw [HZ.out hk]; exact F0.out.up hb
  clear hor F0 HZ HA
  obtain ⟨c0, c1, f0, f1⟩ := F1.out.cells
  go_wp2_with fail
  have F2 := hide (F1.out.flag (x := .bool ok)).drew
  clear c0 c1 f0 f1 F1
  have mixed : Tryd.prog.follows Departure.mixedOrders = true := by kernel_rfl
  refine wp_region_keep (fun u => Fnd w (.int .i64 n) (.bool ok) 28 u) mixed (by kernel_rfl) F2.out ?_
  repeat (first
    | (refine keep_step (v := ?_) (by rfl) (fun u K hS hK => ?_) ?_
       rotate_left
       · obtain ⟨c0, c1, f0, f1⟩ := hS.cells
         (go_simp; first
           | exact hK _ hS
           | exact hK _ hS.tag
           | exact hK _ hS.flag)
       simp only [Act.put, List.setIfInBounds_toArray, List.set_cons_zero, List.set_cons_succ]))
  refine keep_nil (fun w3 hS3 => ?_)
  have F3 := hide hS3
  obtain ⟨c0, c1, f0, f1⟩ := hS3.cells
  go_wp2
  refine leaves_cons (f := 84) (args := #[.pointer (some ⟨w.heap.size + 1, 0, none⟩)]) (by simp) (by simp [go_sem]) ?_
  refine (idleE ⟨w.heap.size + 1, 0, none⟩ _).mono ?_
  rintro e u' w'' ⟨rfl, rfl, rfl⟩
  simp [Leaves, settle, results, Tryd.results40, go_sem, c0, c1]
  exact ⟨rfl, F3.out.b⟩
set_option maxHeartbeats 4000000 in
set_option maxRecDepth 100000 in
theorem found_F (v : Value) (p : Option Addr) (ok : Bool) (w : World) (hz : ok = false → p = none) (has : ∀ (t : Addr) (old : Value) (u : World), Below w.heap.size w u → u.cell? t = some old → u.frozen? t = false → Calls Tryd.prog 85 #[v, .iface 160 (.pointer (some t))] u (AsPost u t (.pointer p) ok)) :
    Calls Tryd.prog 41 #[v] w (FoundPost w (.pointer p) ok) := by
  have hmf : ∀ (fn : Fn) (first cap : Array Value) (w : World), (Instr.makeFunc fn first cap).run Tryd.prog w = .ok (.func fn first cap) w := fun _ _ _ _ => rfl
  have HA := hide has
  have HZ := hide hz
  clear has hz
  go_enter_defers Tryd.func41, Tryd.ntmps41
  go_wp2_with fail
  have F0 := hide (Fnd.new w (.pointer none) (.bool false) 99)
  generalize ((w.alloc (.cells #[.pointer none] 99)).alloc (.cells #[.bool false] 4)) = w0 at *
  refine (HA.out ⟨w.heap.size, 0, none⟩ (.pointer none) w0 F0.out.b F0.out.cells.1 F0.out.cells.2.2.1).mono ?_
  rintro e w' ⟨rfl, hor⟩
  have F1 : Hid (Fnd w (.pointer p) (.bool false) 99 w') := by
    rcases hor with ⟨_, w1, hb, rfl⟩ | ⟨hk, hb⟩
    · exact F0.out.hit hb
    · rw [HZ.out hk]; exact F0.out.up hb
  clear hor F0 HZ HA
  obtain ⟨c0, c1, f0, f1⟩ := F1.out.cells
  go_wp2_with fail
  have F2 := hide (F1.out.flag (x := .bool ok)).drew
  clear c0 c1 f0 f1 F1
  have mixed : Tryd.prog.follows Departure.mixedOrders = true := by kernel_rfl
  refine wp_region_keep (fun u => Fnd w (.pointer p) (.bool ok) 99 u) mixed (by kernel_rfl) F2.out ?_
  repeat (first
    | (refine keep_step (v := ?_) (by rfl) (fun u K hS hK => ?_) ?_
       rotate_left
       · obtain ⟨c0, c1, f0, f1⟩ := hS.cells
         (go_simp; first
           | exact hK _ hS
           | exact hK _ hS.tag
           | exact hK _ hS.flag)
       simp only [Act.put, List.setIfInBounds_toArray, List.set_cons_zero, List.set_cons_succ]))
  refine keep_nil (fun w3 hS3 => ?_)
  have F3 := hide hS3
  obtain ⟨c0, c1, f0, f1⟩ := hS3.cells
  go_wp2
  refine leaves_cons (f := 86) (args := #[.pointer (some ⟨w.heap.size + 1, 0, none⟩)]) (by simp) (by simp [go_sem]) ?_
  refine (idleF ⟨w.heap.size + 1, 0, none⟩ _).mono ?_
  rintro e u' w'' ⟨rfl, rfl, rfl⟩
  simp [Leaves, settle, results, Tryd.results41, go_sem, c0, c1]
  exact ⟨rfl, F3.out.b⟩
/-- An error of the program's making: its value in a world, its number, its place. -/
def IsErr (w : World) (v : Value) (n p : Int) : Prop :=
  (v = .nilIface ∧ n = 0 ∧ p = -1) ∨ (v = .iface 28 (.int .i64 n) ∧ p = -1) ∨ ∃ b T f, v = .iface 99 (.pointer (some ⟨b, 0, none⟩)) ∧ w.heap[b]? = some (.cells #[.int .i64 p, .int .i64 n] T f)
theorem IsErr.below {w w' : World} {v : Value} {n p : Int} (h : IsErr w v n p) (hb : Below w.heap.size w w') : IsErr w' v n p := by
  rcases h with h | h | ⟨b, T, f, h1, h2⟩
  · exact .inl h
  · exact .inr (.inl h)
  · exact .inr (.inr ⟨b, T, f, h1, below_blk hb (heap_lt h2) h2⟩)
/-- An answer, and nothing that was there has changed. -/
def RetB (w : World) (v : Value) (e : Ending) (w' : World) : Prop := e = .returned v ∧ Below w.heap.size w w'
theorem Hit.as {u u' : World} {t : Addr} {v : Value} {e : Ending} (h : Hit u t v e u') : AsPost u t v true e u' := ⟨h.1, .inl ⟨rfl, h.2⟩⟩
theorem Miss.as {u u' : World} {e : Ending} (t : Addr) (v : Value) (h : Miss u e u') : AsPost u t v false e u' := ⟨h.1, .inr ⟨rfl, h.2⟩⟩
theorem number_c (v : Value) (n p : Int) (w : World) (h : IsErr w v n p) (he : Et w) : Calls Tryd.prog 19 #[v] w (RetB w (.int .i64 n)) := by
  have H : ∃ ok : Bool, (ok = false → n = 0) ∧ Hid (Calls Tryd.prog 40 #[v] w (FoundPost w (.int .i64 n) ok)) := by
    rcases h with ⟨rfl, rfl, rfl⟩ | ⟨rfl, rfl⟩ | ⟨b, T, f, rfl, hb⟩
    · exact ⟨false, fun _ => rfl, found_E _ 0 false w (fun _ => rfl) fun t old u hbu ht hf => (as_nil _ u).mono fun e u' hm => Miss.as t _ hm⟩
    · exact ⟨true, (fun h => by cases h), found_E _ n true w (fun h => by cases h) fun t old u hbu ht hf => (as_EE n t old u (he.below hbu (Nat.le_refl _)) ht hf).mono fun e u' hm => Hit.as hm⟩
    · exact ⟨true, (fun h => by cases h), found_E _ n true w (fun h => by cases h) fun t old u hbu ht hf => (as_FE b p n T f t old u (below_blk hbu (heap_lt hb) hb) (he.below hbu (Nat.le_refl _)) ht hf).mono fun e u' hm => Hit.as hm⟩
  obtain ⟨ok, hz, HF⟩ := H
  clear h he
  cases ok
  · have hn := hz rfl
    subst hn
    clear hz
    go_enter Tryd.func19, Tryd.ntmps19
    go_wp2_with fail
    refine HF.out.mono ?_
    rintro e w' ⟨rfl, hb⟩
    go_wp2
    go_ret
    exact ⟨rfl, hb⟩
  · clear hz
    go_enter Tryd.func19, Tryd.ntmps19
    go_wp2_with fail
    refine HF.out.mono ?_
    rintro e w' ⟨rfl, hb⟩
    go_wp2
    go_ret
    exact ⟨rfl, hb⟩
theorem place_c (v : Value) (n p : Int) (w : World) (h : IsErr w v n p) (he : Et w) : Calls Tryd.prog 20 #[v] w (RetB w (.int .i64 p)) := by
  have H : (p = -1 ∧ Hid (Calls Tryd.prog 41 #[v] w (FoundPost w (.pointer none) false))) ∨ ∃ b T f, Hid (w.heap[b]? = some (.cells #[.int .i64 p, .int .i64 n] T f)) ∧ Hid (Calls Tryd.prog 41 #[v] w (FoundPost w (.pointer (some ⟨b, 0, none⟩)) true)) := by
    rcases h with ⟨rfl, rfl, rfl⟩ | ⟨rfl, rfl⟩ | ⟨b, T, f, rfl, hb⟩
    · exact .inl ⟨rfl, found_F _ none false w (fun _ => rfl) fun t old u hbu ht hf => (as_nil _ u).mono fun e u' hm => Miss.as t _ hm⟩
    · exact .inl ⟨rfl, found_F _ none false w (fun _ => rfl) fun t old u hbu ht hf => (as_EF n t u (he.below hbu (Nat.le_refl _))).mono fun e u' hm => Miss.as t _ hm⟩
    · exact .inr ⟨b, T, f, hb, found_F _ _ true w (fun h => by cases h) fun t old u hbu ht hf => (as_FF ⟨b, 0, none⟩ t old u (he.below hbu (Nat.le_refl _)) ht hf).mono fun e u' hm => Hit.as hm⟩
  clear h he
  rcases H with ⟨rfl, HF⟩ | ⟨b, T, f, HB, HF⟩
  · go_enter Tryd.func20, Tryd.ntmps20
    go_wp2_with fail
    refine HF.out.mono ?_
    rintro e w' ⟨rfl, hb⟩
    go_wp2
    go_ret
    exact ⟨rfl, hb⟩
  · go_enter Tryd.func20, Tryd.ntmps20
    go_wp2_with fail
    refine HF.out.mono ?_
    rintro e w' ⟨rfl, hb⟩
    have c0 : w'.cell? ⟨b, 0, none⟩ = some (.int .i64 p) := blk_cell (below_blk hb (heap_lt HB.out) HB.out) rfl
    go_wp2
    go_ret
    exact ⟨rfl, hb⟩
end Go.Proofs.YtkinpbhbgeiflaaDoor.Eu
