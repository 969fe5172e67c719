/- The reference's state while a block's words are added to it. -/
import Derived.Test.YtpaijhmbfljfmaaDoorSza
import Derived.Maps.AppendAt
namespace Go.Proofs.YtpaijhmbfljfmaaDoor.Szb
set_option linter.unusedVariables false
set_option linter.unusedSimpArgs false
set_option maxRecDepth 100000
open Go.RowKit
open Go.Proofs.YtpaijhmbfljfmaaDoor.Wu Go.Proofs.YtpaijhmbfljfmaaDoor.Sm Go.Proofs.YtpaijhmbfljfmaaDoor.Sk Go.Proofs.YtpaijhmbfljfmaaDoor.Sc Go.Proofs.YtpaijhmbfljfmaaDoor.Sxa Go.Proofs.YtpaijhmbfljfmaaDoor.Sh Go.Proofs.YtpaijhmbfljfmaaDoor.Sn Go.Proofs.YtpaijhmbfljfmaaDoor.Sw0 Go.Proofs.YtpaijhmbfljfmaaDoor.Sf Go.Proofs.YtpaijhmbfljfmaaDoor.So Go.Proofs.YtpaijhmbfljfmaaDoor.Sv Go.Proofs.YtpaijhmbfljfmaaDoor.Ap Go.Proofs.YtpaijhmbfljfmaaDoor.Sr Go.Proofs.YtpaijhmbfljfmaaDoor.Srf0 Go.Proofs.YtpaijhmbfljfmaaDoor.Srf1 Go.Proofs.YtpaijhmbfljfmaaDoor.Sza
def hRow (s v : S8) (i : Nat) : List Nat := (s.add v).list.take i ++ s.list.drop i
theorem hRow_zero (s v : S8) : hRow s v 0 = s.list := by simp [hRow]
theorem hRow_end (s v : S8) : hRow s v 8 = (s.add v).list := by simp [hRow, S8.list]
theorem hRow_length (s v : S8) (i : Nat) (h : i ≤ 8) : (hRow s v i).length = 8 := by simp [hRow, S8.list]; omega
theorem hRow_at (s v : S8) (i : Nat) (h : i < 8) : (hRow s v i).getD i 0 = s.list.getD i 0 := by
  match i, h with
  | 0, _ => rfl
  | 1, _ => rfl
  | 2, _ => rfl
  | 3, _ => rfl
  | 4, _ => rfl
  | 5, _ => rfl
  | 6, _ => rfl
  | 7, _ => rfl
theorem hRow_step (s v : S8) (i : Nat) (h : i < 8) : (hRow s v i).set i ((s.list.getD i 0 + v.list.getD i 0) % 4294967296) = hRow s v (i + 1) := by
  match i, h with
  | 0, _ => rfl
  | 1, _ => rfl
  | 2, _ => rfl
  | 3, _ => rfl
  | 4, _ => rfl
  | 5, _ => rfl
  | 6, _ => rfl
  | 7, _ => rfl
theorem V8.at {wr : World} {VB : Nat} {v : S8} (h : V8 wr VB v) (i : Nat) (hi : i < 8) : wr.cell? ⟨VB, i, none⟩ = some (.int .u64 ((v.list.getD i 0 : Nat) : Int)) := by
  match i, hi with
  | 0, _ => exact h.a
  | 1, _ => exact h.b
  | 2, _ => exact h.c
  | 3, _ => exact h.d
  | 4, _ => exact h.e
  | 5, _ => exact h.f
  | 6, _ => exact h.g
  | 7, _ => exact h.h
/-- The memory, the state's row told by a list. -/
structure E3 (w wr : World) (KB HB g nb cap : Nat) (PM : List Nat) (row : List Nat) : Prop where
  ks : wr.heap[KB]? = some (.cells (u64s Ks) 100 (0, 0))
  hs : wr.heap[HB]? = some (.cells (u64s row) 100 (0, 0))
  msg : Dst wr g (64 * nb) cap PM
  res : wr.heap[w.heap.size]? = some (.cells (u8s (zeros 32)) 27 (0, 0))
  below : Below w.heap.size w wr
  nk : KB ≠ HB
  ng : g ≠ HB
  nr : w.heap.size < HB
section
variable {w wr : World} {KB HB g nb cap : Nat} {PM : List Nat} {s : S8} {row row' : List Nat}
theorem E3.env (h : E3 w wr KB HB g nb cap PM s.list) : Env w wr KB HB g (64 * nb) cap PM s := ⟨h.ks, h.hs, h.msg, h.res, h.below⟩
theorem E3.step {i x : Nat} (h : E3 w wr KB HB g nb cap PM row) (hr : row.set i x = row') : ∀ k : Nat, E3 w ((wr.drewN k).setCell ⟨HB, i, none⟩ (.int .u64 (x : Int))) KB HB g nb cap PM row' := by
  intro k
  have hg := grown_setCell (World.grownBy.refl (wr.drewN k) (some HB)) i (.int .u64 (x : Int))
  have hb : Below w.heap.size w (wr.drewN k) := below_drewN h.below k
  have hh : (wr.drewN k).heap[HB]? = some (.cells (u64s row) 100 (0, 0)) := h.hs
  have hd : Dst (wr.drewN k) g (64 * nb) cap PM := ⟨h.msg.len, h.msg.all, h.msg.fit, h.msg.max, h.msg.lt, h.msg.cells, h.msg.spare⟩
  refine ⟨keepG hg h.nk h.ks, ?_, hd.kept hg h.ng, keepG hg (by have := h.nr; omega) h.res, belowG hb hg (by have := h.nr; omega) hb.size, h.nk, h.ng, h.nr⟩
  rw [blk_set hh, u64s_set, hr]
theorem V8.kept {VB i : Nat} {x : Value} {v : S8} (h : V8 wr VB v) (hne : VB ≠ HB) : ∀ k : Nat, V8 ((wr.drewN k).setCell ⟨HB, i, none⟩ x) VB v := by
  intro k
  have hg := grown_setCell (World.grownBy.refl (wr.drewN k) (some HB)) i x
  have h' := h.drewN k
  exact ⟨grown_cell hg hne h'.a, grown_cell hg hne h'.b, grown_cell hg hne h'.c, grown_cell hg hne h'.d, grown_cell hg hne h'.e, grown_cell hg hne h'.f, grown_cell hg hne h'.g, grown_cell hg hne h'.h⟩
theorem list_lt {s : S8} (h : s.ok) (i : Nat) : s.list.getD i 0 < 4294967296 := all32_getD h i
end
def oRow (s : S8) (i : Nat) : List Nat := (bytes8 s).take i ++ zeros (32 - i)
theorem oRow_length (s : S8) (i : Nat) (h : i ≤ 32) : (oRow s i).length = 32 := by simp [oRow, bytes8_length, zeros]; omega
theorem oRow_end (s : S8) : oRow s 32 = bytes8 s := by unfold oRow; rw [List.take_of_length_le (by rw [bytes8_length]; omega)]; simp [zeros]
theorem oRow_zero (s : S8) : oRow s 0 = zeros 32 := by simp [oRow]
theorem bytes8_at (s : S8) (i : Nat) (h : i < 32) : (bytes8 s).getD i 0 = (s.list.getD (i / 4) 0 >>> (24 - 8 * (i % 4))) % 256 := by
  obtain ⟨a, b, ha, hb, rfl⟩ : ∃ a b, a < 8 ∧ b < 4 ∧ i = 4 * a + b := ⟨i / 4, i % 4, by omega, by omega, by omega⟩
  rw [show (4 * a + b) / 4 = a by omega, show (4 * a + b) % 4 = b by omega]
  match a, ha with
  | 0, _ => match b, hb with
    | 0, _ => simp [bytes8, S8.list, four, List.getD, Nat.shiftRight_eq_div_pow]
    | 1, _ => simp [bytes8, S8.list, four, List.getD, Nat.shiftRight_eq_div_pow]
    | 2, _ => simp [bytes8, S8.list, four, List.getD, Nat.shiftRight_eq_div_pow]
    | 3, _ => simp [bytes8, S8.list, four, List.getD, Nat.shiftRight_eq_div_pow]
  | 1, _ => match b, hb with
    | 0, _ => simp [bytes8, S8.list, four, List.getD, Nat.shiftRight_eq_div_pow]
    | 1, _ => simp [bytes8, S8.list, four, List.getD, Nat.shiftRight_eq_div_pow]
    | 2, _ => simp [bytes8, S8.list, four, List.getD, Nat.shiftRight_eq_div_pow]
    | 3, _ => simp [bytes8, S8.list, four, List.getD, Nat.shiftRight_eq_div_pow]
  | 2, _ => match b, hb with
    | 0, _ => simp [bytes8, S8.list, four, List.getD, Nat.shiftRight_eq_div_pow]
    | 1, _ => simp [bytes8, S8.list, four, List.getD, Nat.shiftRight_eq_div_pow]
    | 2, _ => simp [bytes8, S8.list, four, List.getD, Nat.shiftRight_eq_div_pow]
    | 3, _ => simp [bytes8, S8.list, four, List.getD, Nat.shiftRight_eq_div_pow]
  | 3, _ => match b, hb with
    | 0, _ => simp [bytes8, S8.list, four, List.getD, Nat.shiftRight_eq_div_pow]
    | 1, _ => simp [bytes8, S8.list, four, List.getD, Nat.shiftRight_eq_div_pow]
    | 2, _ => simp [bytes8, S8.list, four, List.getD, Nat.shiftRight_eq_div_pow]
    | 3, _ => simp [bytes8, S8.list, four, List.getD, Nat.shiftRight_eq_div_pow]
  | 4, _ => match b, hb with
    | 0, _ => simp [bytes8, S8.list, four, List.getD, Nat.shiftRight_eq_div_pow]
    | 1, _ => simp [bytes8, S8.list, four, List.getD, Nat.shiftRight_eq_div_pow]
    | 2, _ => simp [bytes8, S8.list, four, List.getD, Nat.shiftRight_eq_div_pow]
    | 3, _ => simp [bytes8, S8.list, four, List.getD, Nat.shiftRight_eq_div_pow]
  | 5, _ => match b, hb with
    | 0, _ => simp [bytes8, S8.list, four, List.getD, Nat.shiftRight_eq_div_pow]
    | 1, _ => simp [bytes8, S8.list, four, List.getD, Nat.shiftRight_eq_div_pow]
    | 2, _ => simp [bytes8, S8.list, four, List.getD, Nat.shiftRight_eq_div_pow]
    | 3, _ => simp [bytes8, S8.list, four, List.getD, Nat.shiftRight_eq_div_pow]
  | 6, _ => match b, hb with
    | 0, _ => simp [bytes8, S8.list, four, List.getD, Nat.shiftRight_eq_div_pow]
    | 1, _ => simp [bytes8, S8.list, four, List.getD, Nat.shiftRight_eq_div_pow]
    | 2, _ => simp [bytes8, S8.list, four, List.getD, Nat.shiftRight_eq_div_pow]
    | 3, _ => simp [bytes8, S8.list, four, List.getD, Nat.shiftRight_eq_div_pow]
  | 7, _ => match b, hb with
    | 0, _ => simp [bytes8, S8.list, four, List.getD, Nat.shiftRight_eq_div_pow]
    | 1, _ => simp [bytes8, S8.list, four, List.getD, Nat.shiftRight_eq_div_pow]
    | 2, _ => simp [bytes8, S8.list, four, List.getD, Nat.shiftRight_eq_div_pow]
    | 3, _ => simp [bytes8, S8.list, four, List.getD, Nat.shiftRight_eq_div_pow]
theorem oRow_step (s : S8) (i : Nat) (h : i < 32) : (oRow s i).set i ((s.list.getD (i / 4) 0 >>> (24 - 8 * (i % 4))) % 256) = oRow s (i + 1) := by
  rw [← bytes8_at s i h]
  unfold oRow
  have hl : ((bytes8 s).take i).length = i := by rw [List.length_take, bytes8_length]; omega
  rw [List.set_append_right _ _ (by omega), hl, Nat.sub_self, show 32 - i = (32 - (i + 1)) + 1 by omega]
  have e : (bytes8 s).take (i + 1) = (bytes8 s).take i ++ [(bytes8 s).getD i 0] := by
    have hb : i < (bytes8 s).length := by rw [bytes8_length]; exact h
    rw [List.take_succ_eq_append_getElem hb]
    simp only [List.getD, List.getElem?_eq_getElem hb, Option.getD_some]
  rw [e]
  simp [zeros, List.replicate_succ]
theorem shr_mod (A k : Nat) : ((A : Int) / 2 ^ k).tmod 256 % 256 = (((A >>> k) % 256 : Nat) : Int) := by
  have e : (A : Int) / 2 ^ k = ((A >>> k : Nat) : Int) := by rw [Nat.shiftRight_eq_div_pow, Int.natCast_ediv, Int.natCast_pow]; rfl
  rw [e]
  generalize A >>> k = y
  rw [Int.tmod_eq_emod_of_nonneg (by omega)]
  omega
theorem make64 (u : World) : Sem.run Tryd.prog (Instr.makeSlice 105 (.int .i64 64) (.int .i64 64)) u = .ok (.slice (some ⟨u.heap.size, 0, none⟩) 64 64) (u.alloc (.cells (u64s (zeros 64)) 100)) := by kernel_rfl
theorem info_u64 : (Tryd.prog.info? 100).map (fun i => (i.zero, i.size, i.bytes)) = some (some (.int .u64 0), 1, 8) := by kernel_rfl
theorem append_h (u : World) (ty : TypeId) (EB HB : Nat) (s : S8) (he : u.heap[EB]? = some (.cells #[] 100 (0, 0))) (hs : u.heap[HB]? = some (.cells (u64s s.list) 100 (0, 0))) (hlt : HB < EB) (hE : EB < u.heap.size) :
    ∃ VB vc u', (Builtin.append_ #[105, 105] ty #[.slice (some ⟨EB, 0, none⟩) 0 0, .slice (some ⟨HB, 0, none⟩) 8 8]).run Tryd.prog u = .ok (.slice (some ⟨VB, 0, none⟩) 8 vc) u' ∧ V8 u' VB s ∧ 8 ≤ vc ∧ vc ≤ 9223372036854775807 ∧ VB ≠ HB ∧ u.grownBy u' (some EB) := by
  obtain ⟨i0, hi0, hz0, hz1, hz2⟩ := info_parts info_u64
  have hown : u.ownsRow 0 100 1 (.slice (some ⟨EB, 0, none⟩) 0 0) 0 [] := ⟨by simp, .inr ⟨EB, 0, #[], rfl, Nat.zero_le _, he, Nat.le_refl _, Nat.zero_le _, by simp, by simp⟩⟩
  have hnews : ∀ j v, (u64s s.list).toList[j]? = some v → u.cell? ((⟨HB, 0, none⟩ : Addr).add j) = some v := by
    intro j v hv
    rw [Addr.add_mid, Nat.zero_add]
    exact blk_cell hs (by simpa using hv)
  obtain ⟨v', w', hr, h1, h2, h3, h4⟩ := run_append_own_at (P := Tryd.prog) u 0 105 ty 100 i0 _ 1 8 Tryd.underlying105 hi0 hz0 hz1 hz2 rfl (by omega) _ 0 [] hown ⟨HB, 0, none⟩ 8 8 (u64s s.list).toList rfl hnews (by
    intro v hv
    simp only [u64s, S8.list, List.map_cons, List.map_nil, List.mem_cons, List.not_mem_nil, or_false] at hv
    rcases hv with rfl | rfl | rfl | rfl | rfl | rfl | rfl | rfl <;> rfl) (by unfold maxLen; omega) (by omega) (Nat.zero_le _)
  simp only [Nat.zero_add, List.nil_append] at h1
  rcases h1.2 with ⟨_, hn⟩ | ⟨g, cap, cur, rfl, hb, hg, hl, hm, _⟩
  · omega
  · have hc := h1.cells (g := g) rfl
    have hc' : ∀ (j : Nat) (v : Value), (u64s s.list).toList[j]? = some v → w'.cell? ⟨g, j, none⟩ = some v := by
      intro j v hv
      have := hc j v hv
      rwa [Addr.add_mid, Nat.zero_add] at this
    unfold maxLen at hm
    refine ⟨g, cap, w', hr, ⟨hc' 0 _ rfl, hc' 1 _ rfl, hc' 2 _ rfl, hc' 3 _ rfl, hc' 4 _ rfl, hc' 5 _ rfl, hc' 6 _ rfl, hc' 7 _ rfl⟩, hl, by omega, ?_, h2⟩
    rcases h4 with e | e
    · injection e with e; have e : g = EB := e; omega
    · injection e with e; have e : g = u.heap.size := e; omega
theorem wpList_append_run3 {P : Program} {w w' : World} {ops : Array Oper} {rest : List Oper} {o : Oper} {a : Act} {Q : Exit → Act → World → Prop} (hgd : o.guard = none) (s x : Operand) (t : TypeId)
    (ho : o.op = .call { callee := .builtin .append, args := #[s, x], argTypes := #[t, t] }) (v xv v' : Value)
    (hs : a.eval s = v) (hx : a.eval x = xv) (hrun : (Builtin.append_ #[t, t] o.type #[v, xv]).run P w = .ok v' w') (h : Hid (wpList P ops Q rest (a.put o.dst v') w')) : wpList P ops Q (o :: rest) a w := by
  refine wpList_plain hgd fun K hK => ?_
  unfold Oper.wp
  simp [execOp, ho, resolve, invoke, builtin, hs, hx, hrun, Result.andThen]
  exact hK _ _ h
theorem _root_.Go.Proofs.YtpaijhmbfljfmaaDoor.Sza.E2.grown {w wr wr' : World} {KB HB g nb cap : Nat} {PM : List Nat} {s : S8} {WB : Nat} {row : List Nat} {EB : Nat} (h : E2 w wr KB HB g nb cap PM s WB row) (hg : wr.grownBy wr' (some EB)) (h1 : KB ≠ EB) (h2 : HB ≠ EB) (h3 : g ≠ EB) (h4 : w.heap.size < EB) (h5 : WB ≠ EB) : E2 w wr' KB HB g nb cap PM s WB row :=
  ⟨h.env.grown hg h1 h2 h3 h4, keepG hg h5 h.row, h.nk, h.nh, h.ng, h.nr⟩
end Go.Proofs.YtpaijhmbfljfmaaDoor.Szb
