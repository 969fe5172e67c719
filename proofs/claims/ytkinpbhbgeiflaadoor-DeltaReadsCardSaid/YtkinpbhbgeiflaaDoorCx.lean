/- Sum of the Reader at any state. -/
import Derived.Test.YtkinpbhbgeiflaaDoorCw
import Derived.Test.YtkinpbhbgeiflaaDoorQe
import Derived.Laws.CopyOwn
import Derived.Laws.Tables
namespace Go.Proofs.YtkinpbhbgeiflaaDoor.Cv
def Rs.sum (s : Rs) (L : List Nat) : Rs := if (s.has L.length 32).fe = 0 then ⟨s.at_ + 32, s.fa, s.fe⟩ else s.has L.length 32
def Rs.sumV (s : Rs) (L : List Nat) : List Nat := if (s.has L.length 32).fe = 0 then (L.drop s.at_).take 32 else Go.Proofs.YtkinpbhbgeiflaaDoor.Ba.zeros 32
end Go.Proofs.YtkinpbhbgeiflaaDoor.Cv
namespace Go.Proofs.YtkinpbhbgeiflaaDoor.Cx
set_option linter.unusedVariables false
set_option linter.unusedSimpArgs false
set_option maxRecDepth 100000
open Go.ChangeShapes Go.WideShapes Go.ChangeAt Go.RowKit
open Go.Proofs.YtkinpbhbgeiflaaDoor.Wu Go.Proofs.YtkinpbhbgeiflaaDoor.Sm Go.Proofs.YtkinpbhbgeiflaaDoor.Sh Go.Proofs.YtkinpbhbgeiflaaDoor.Ba Go.Proofs.YtkinpbhbgeiflaaDoor.Bp Go.Proofs.YtkinpbhbgeiflaaDoor.Bq Go.Proofs.YtkinpbhbgeiflaaDoor.Cm Go.Proofs.YtkinpbhbgeiflaaDoor.Cn Go.Proofs.YtkinpbhbgeiflaaDoor.Cr Go.Proofs.YtkinpbhbgeiflaaDoor.Cs Go.Proofs.YtkinpbhbgeiflaaDoor.Rg Go.Proofs.YtkinpbhbgeiflaaDoor.Ct Go.Proofs.YtkinpbhbgeiflaaDoor.Er Go.Proofs.YtkinpbhbgeiflaaDoor.Eu Go.Proofs.YtkinpbhbgeiflaaDoor.Cv Go.Proofs.YtkinpbhbgeiflaaDoor.Cw
attribute [local go_sem] Rk.kUpon_value Rk.kUpon_skip Rk.kUpon_enter
theorem zlit8 : (#[Value.int IntKind.u8 0, Value.int IntKind.u8 0, Value.int IntKind.u8 0, Value.int IntKind.u8 0, Value.int IntKind.u8 0, Value.int IntKind.u8 0, Value.int IntKind.u8 0, Value.int IntKind.u8 0, Value.int IntKind.u8 0, Value.int IntKind.u8 0, Value.int IntKind.u8 0, Value.int IntKind.u8 0, Value.int IntKind.u8 0, Value.int IntKind.u8 0, Value.int IntKind.u8 0, Value.int IntKind.u8 0, Value.int IntKind.u8 0, Value.int IntKind.u8 0, Value.int IntKind.u8 0, Value.int IntKind.u8 0, Value.int IntKind.u8 0, Value.int IntKind.u8 0, Value.int IntKind.u8 0, Value.int IntKind.u8 0, Value.int IntKind.u8 0, Value.int IntKind.u8 0, Value.int IntKind.u8 0, Value.int IntKind.u8 0, Value.int IntKind.u8 0, Value.int IntKind.u8 0, Value.int IntKind.u8 0, Value.int IntKind.u8 0] : Array Value) = u8s (zeros 32) := by rfl
theorem alenS : Tryd.prog.arrayLen 84 = 32 := by simp [Program.arrayLen, Tryd.underlying84]
theorem aelemS : Tryd.prog.elem 84 = 5 := by simp [Program.elem, Tryd.underlying84]
theorem infoS : (Tryd.prog.info? 84).map (·.size) = some 32 := by kernel_rfl
theorem sliceAllS (u : World) (B : Nat) :
    Sem.run Tryd.prog (Instr.sliceAt 84 (.pointer (some ⟨B, 0, none⟩)) none none none) u = .ok (.slice (some ⟨B, 0, none⟩) 32 32) u := by
  rw [run_sliceAt_array_all u 84 ⟨B, 0, none⟩ (by rw [alenS, aelemS]; exact Tryd.underlying84), aelemS, size_u8, alenS]
  simp only [Result.andThen, slicedAt, Nat.mul_one]
  rw [if_neg (by omega), Addr.add_mid]
theorem kUpon_copy {a : Act} {o : Oper} {u w' : World} {K : Value → World → Prop} {v y v' : Value} (s x : Operand) (ho : o.op = .call { callee := .builtin .copy, args := #[s, x], argTypes := #[22, 22] }) (hs : a.eval s = v) (hx : a.eval x = y)
    (hrun : (Builtin.copy_ #[22, 22] o.type #[v, y]).run Tryd.prog u = .ok v' w') (h : K v' w') : Rk.kUpon Tryd.prog K ((execOp a.eval o).run Tryd.prog u) := by
  have e : (execOp a.eval o).run Tryd.prog u = .ok (.value v') w' := by
    simp [execOp, ho, resolve, invoke, builtin, hs, hx, hrun, Result.andThen]
  rw [e]
  exact h
theorem grown_new {w u u' : World} {k : Option Nat} {B : Nat} (h : w.grownBy u k) (hB : w.heap.size ≤ B) (hg : u.grownBy u' (some B)) : w.grownBy u' k :=
  ⟨hg.os.trans h.os, hg.tape.trans h.tape, hg.output.trans h.output, Nat.le_trans h.size hg.size, fun b hb hne => (hg.block b (Nat.lt_of_lt_of_le hb h.size) (fun e => by injection e with e; omega)).trans (h.block b hb hne)⟩
theorem grown_setRow (w : World) (g : Nat) (cs : Array Value) : w.grownBy (w.setRow g cs) (some g) :=
  ⟨rfl, rfl, rfl, by simp [World.setRow], fun b hb hne => setRow_other w g b cs (fun e => hne (by rw [e]))⟩
/-- Where the walk through the copy is. -/
def stage (g : Nat) (ad : Addr) (m c : Nat) (s s' : Rs) (SB : Nat) (X : List Nat) (u : World) : List Value → Prop
  | [] => RdS u g (some ad) m c s ∧ u.heap[SB]? = some (.cells (u8s (zeros 32)) 84 (0, 0))
  | [_] => RdS u g (some ad) m c s' ∧ u.heap[SB]? = some (.cells (u8s (zeros 32)) 84 (0, 0))
  | _ => RdS u g (some ad) m c s' ∧ u.heap[SB]? = some (.cells (u8s X) 84 (0, 0))
structure T (w : World) (g : Nat) (ad : Addr) (m c : Nat) (s s' : Rs) (L : List Nat) (RB SB : Nat) (X : List Nat) (h : List Value) (u : World) : Prop where
  grown : w.grownBy u (some g)
  res : u.heap[RB]? = some (.cells (u8s (zeros 32)) 84 (0, 0))
  src : SrcB u (some ad) m L
  stage : stage g ad m c s s' SB X u h
set_option maxHeartbeats 1600000 in
theorem sum_c (g : Nat) (a : Option Addr) (m c : Nat) (L : List Nat) (s : Rs) (w : World) (h : RdS w g a m c s) (hs : SrcB w a m L) (hga : ∀ ad, a = some ad → 0 < m → ad.block ≠ g) (hnil : a = none → m = 0) (hat : s.at_ ≤ m) (hmc : m ≤ c) (hm : m ≤ 70368744177664) :
    Calls Tryd.prog 77 #[.pointer (some ⟨g, 0, none⟩)] w (RdP w g a m c (s.sum L) (.agg (u8s (s.sumV L)))) := by
  have hLm := hs.1
  have hgl := heap_lt h
  have hb0 := ((Below.refl w.heap.size w).alloc (Nat.le_refl _) (.cells (u8s (zeros 32)) 84)).alloc (by simp) (.cells (u8s (zeros 32)) 84)
  have HR0 := hide (heap_2a w (.cells (u8s (zeros 32)) 84) (.cells (u8s (zeros 32)) 84))
  have HO0 := hide (heap_2b w (.cells (u8s (zeros 32)) 84) (.cells (u8s (zeros 32)) 84))
  have HS0 := hide (hs.below hb0)
  have H0 := hide (below_blk hb0 hgl h)
  have HG0 := hide (below_grown hb0 (some g))
  have hadl : ∀ ad, a = some ad → 0 < m → ad.block < w.heap.size := fun ad e h0 => by
    obtain ⟨_, _, b, off, ha, hc⟩ := hs
    have := ha h0
    rw [this] at e
    injection e with e
    subst e
    exact cell_lt (hc 0 h0)
  clear h hs hb0
  unfold Rs.sum Rs.sumV
  rw [hLm]
  by_cases hok : (s.has m 32).fe = 0
  · have hs1 : s.has m 32 = s ∧ s.at_ + 32 ≤ m := by
      unfold Rs.has at hok ⊢
      by_cases hc : s.fe = 0 ∧ m < s.at_ + 32
      · rw [if_pos hc] at hok; simp at hok
      · rw [if_neg hc] at hok
        rw [if_neg hc]
        exact ⟨rfl, by omega⟩
    obtain ⟨hs1, hs2⟩ := hs1
    obtain ⟨ad, rfl⟩ : ∃ ad, a = some ad := by
      cases a with
      | none => have := hnil rfl; omega
      | some ad => exact ⟨ad, rfl⟩
    have hadl1 := hadl ad rfl
    clear hnil hadl
    rw [if_pos hok, if_pos hok]
    have HH := hide (fun u (hu : RdS u g (some ad) m c s) => has_c g (some ad) m c 32 s u hu (by omega) hat (by omega))
    rw [hs1] at HH hok
    rw [decide_eq_true hok] at HH
    clear hok hs1
    obtain ⟨at_, fa, fe⟩ := s
    simp only at hs2 HH ⊢
    have hXl : ((L.drop at_).take 32).length = 32 := by rw [List.length_take, List.length_drop]; omega
    have HX := hide (fun u (hu : SrcB u (some ad) m L) => src_mid hu at_ 32 hs2)
    generalize (L.drop at_).take 32 = X at *
    have HXl := hide hXl
    clear hXl
    go_enter Tryd.func77, Tryd.ntmps77
    go_wp2_with fail
    rw [zlit8]
    generalize ((w.alloc (.cells (u8s (zeros 32)) 84)).alloc (.cells (u8s (zeros 32)) 84)) = w0 at *
    refine (HH.out w0 H0.out).mono ?_
    rintro e w1 ⟨rfl, h1, hg1⟩
    have H1 := hide h1
    have HG1 := hide (grown_trans HG0.out hg1)
    have HR1 := hide (keepG hg1 (by omega) HR0.out)
    have HO1 := hide (keepG hg1 (by omega) HO0.out)
    have HS1 := hide (src_kept HS0.out hg1 hga)
    clear h1 hg1 H0 HG0 HR0 HO0 HS0
    have mixed : Tryd.prog.follows Departure.mixedOrders = true := by kernel_rfl
    have hsa := fun v : World => sliceAllS v (w.heap.size + 1)
    go_wp2_with fail
    have HT0 : Hid (T w g ad m c ⟨at_, fa, fe⟩ ⟨at_ + 32, fa, fe⟩ L w.heap.size (w.heap.size + 1) X [] w1.drew) := hide ⟨⟨HG1.out.os, HG1.out.tape, HG1.out.output, HG1.out.size, HG1.out.block⟩, HR1.out, HS1.out, H1.out, HO1.out⟩
    refine wp_region_g (T w g ad m c ⟨at_, fa, fe⟩ ⟨at_ + 32, fa, fe⟩ L w.heap.size (w.heap.size + 1) X) [some (some ?_), some (some ?_), none, none] mixed (by kernel_rfl) [2, 3] [2, 3] rfl rfl (by kernel_rfl) HT0.out ?_
    rotate_left 2
    repeat (
      refine gF_step (by rfl) (fun h u K hT hK => ?_) ?_
      · go_simp
        exact hK _ hT
      simp only [Act.put, List.setIfInBounds_toArray, List.set_cons_zero, List.set_cons_succ])
    refine gE_step (v := .slice (some (ad.add at_)) 32 (c - at_)) (by rfl) (fun u K hT hK => ?_) ?_
    · go_simp
      refine (next_c g (some ad) m c at_ 32 fa fe u hT.stage.1 hs2 hmc (by omega)).mono ?_
      rintro e u' ⟨A', hA', rfl, hr, hg⟩
      rw [if_neg (by omega)] at hA'
      simp only [Option.map_some] at hA'
      subst hA'
      exact hK _ ⟨grown_trans hT.grown hg, keepG hg (by omega) hT.res, src_kept hT.src hg hga, hr, keepG hg (by omega) hT.stage.2⟩
    simp only [Act.put, List.setIfInBounds_toArray, List.set_cons_zero, List.set_cons_succ]
    refine gE_step (v := goInt 32) (by rfl) (fun u K hT hK => ?_) ?_
    · have hrun := run_copy_row (P := Tryd.prog) u 22 22 3 5 (w.heap.size + 1) 0 32 32 (ad.add at_) 32 (c - at_) (u8s (zeros 32)) 84 (b8 X) Tryd.underlying22 info_u8s hT.stage.2
        (by rw [b8_length, HXl.out]; rfl) (fun j v hv => by
          obtain ⟨hj, rfl⟩ := b8_at hv
          rw [HXl.out] at hj
          obtain ⟨_, _, b, off, ha, hc⟩ := HX.out u hT.src
          have := ha (by omega)
          simp only [Option.map_some, Option.some.injEq] at this
          rw [this, Addr.add_mid]
          exact hc j hj) (by rw [b8_length, HXl.out, u8s_size, zeros_length]; omega) (b8_one X)
      have e1 : ((u8s (zeros 32)).toList.take 0 ++ b8 X ++ (u8s (zeros 32)).toList.drop (0 + (b8 X).length)).toArray = u8s X := by
        rw [b8_length, HXl.out, List.take_zero, List.nil_append, List.drop_eq_nil_of_le (by rw [Array.length_toList, u8s_size, zeros_length]; omega), List.append_nil]
        rfl
      rw [e1, b8_length, HXl.out] at hrun
      refine kUpon_copy (.tmp 6) (.tmp 8) rfl rfl rfl hrun ?_
      have hgr := grown_setRow u (w.heap.size + 1) (u8s X)
      refine hK _ ⟨grown_new hT.grown (by omega) hgr, keepG hgr (by omega) hT.res, src_kept hT.src hgr (fun x hx h0 => ?_), keepG hgr (by omega) hT.stage.1, setRow_heap u (w.heap.size + 1) _ (u8s X) _ _ hT.stage.2⟩
      injection hx with hx
      subst hx
      have := hadl1 (by omega)
      omega
    simp only [Act.put, List.setIfInBounds_toArray, List.set_cons_zero, List.set_cons_succ]
    refine g_nil (fun w3 hT => ?_)
    have H3 := hide hT.stage.1
    have HO3 := hide hT.stage.2
    have HR3 := hide hT.res
    have HG3 := hide hT.grown
    clear hT HT0 H1 HO1 HR1 HG1 HS1 hsa
    go_wp2_with (first | refine wpList_load_whole rfl 84 (.tmp 3) rfl (w.heap.size + 1) X 84 (0, 0) rfl HO3.out _ Tryd.underlying84 rfl (by rw [infoS, HXl.out]) ?_ | refine wpList_store_whole rfl 84 (.tmp 2) (.tmp 10) rfl w.heap.size X (zeros 32) 84 rfl rfl HR3.out (by rw [HXl.out, zeros_length]) (by rw [infoS, HXl.out]) ?_)
    intro w4 HR4 HG4
    refine of_hid ?_
    have H5 := hide (keepG HG4.out (by omega) H3.out)
    have HG5 := hide (grown_new HG3.out (Nat.le_refl _) HG4.out)
    clear HR3 HG3 H3 HO3 HG4
    go_wp2
    refine ret_whole Tryd.results77 w.heap.size X 84 (0, 0) rfl HR4.out _ Tryd.underlying84 rfl (by rw [infoS, HXl.out]) rfl ?_
    exact ⟨rfl, H5.out, HG5.out⟩
  · rw [if_neg hok, if_neg hok]
    clear hadl hnil
    have HH := hide (fun u (hu : RdS u g a m c s) => has_c g a m c 32 s u hu (by omega) hat (by omega))
    rw [decide_eq_false hok] at HH
    generalize s.has m 32 = s1 at *
    clear hok
    go_enter Tryd.func77, Tryd.ntmps77
    go_wp2_with fail
    rw [zlit8]
    generalize ((w.alloc (.cells (u8s (zeros 32)) 84)).alloc (.cells (u8s (zeros 32)) 84)) = w0 at *
    refine (HH.out w0 H0.out).mono ?_
    rintro e w1 ⟨rfl, h1, hg1⟩
    have H1 := hide h1
    have HG1 := hide (grown_trans HG0.out hg1)
    have HR1 := hide (keepG hg1 (by omega) HR0.out)
    have HO1 := hide (keepG hg1 (by omega) HO0.out)
    have HS1 := hide (src_kept HS0.out hg1 hga)
    clear h1 hg1 H0 HG0 HR0 HO0 HS0
    go_wp2_with (first | refine wpList_load_whole rfl 84 (.tmp 3) rfl (w.heap.size + 1) (zeros 32) 84 (0, 0) rfl HO1.out _ Tryd.underlying84 rfl (by rw [infoS, zeros_length]) ?_ | refine wpList_store_whole rfl 84 (.tmp 2) (.tmp 10) rfl w.heap.size (zeros 32) (zeros 32) 84 rfl rfl HR1.out rfl (by rw [infoS, zeros_length]) ?_)
    intro w4 HR4 HG4
    refine of_hid ?_
    have H5 := hide (keepG HG4.out (by omega) H1.out)
    have HG5 := hide (grown_new HG1.out (Nat.le_refl _) HG4.out)
    clear HR1 HG1 H1 HO1 HG4 HS1
    go_wp2
    refine ret_whole Tryd.results77 w.heap.size (zeros 32) 84 (0, 0) rfl HR4.out _ Tryd.underlying84 rfl (by rw [infoS, zeros_length]) rfl ?_
    exact ⟨rfl, H5.out, HG5.out⟩
end Go.Proofs.YtkinpbhbgeiflaaDoor.Cx
