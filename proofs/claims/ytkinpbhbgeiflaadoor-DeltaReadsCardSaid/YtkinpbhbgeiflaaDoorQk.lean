/- Several texts, one behind the other. -/
import Derived.Test.YtkinpbhbgeiflaaDoorQj
import Derived.Test.YtkinpbhbgeiflaaDoorQe
import Derived.Test.YtkinpbhbgeiflaaDoorQf
import Derived.Test.YtkinpbhbgeiflaaDoorQg
import Derived.Test.YtkinpbhbgeiflaaDoorQh
/- The reference's tokens; law07's plain; the reference's Same. -/
namespace Go.Proofs.YtkinpbhbgeiflaaDoor.Do
set_option linter.unusedVariables false
set_option linter.unusedSimpArgs false
set_option maxRecDepth 100000
open Go.ChangeShapes Go.WideShapes Go.ChangeAt Go.RowKit
open Go.Proofs.YtkinpbhbgeiflaaDoor.Wu Go.Proofs.YtkinpbhbgeiflaaDoor.Sm Go.Proofs.YtkinpbhbgeiflaaDoor.Sh Go.Proofs.YtkinpbhbgeiflaaDoor.Ba Go.Proofs.YtkinpbhbgeiflaaDoor.Bp Go.Proofs.YtkinpbhbgeiflaaDoor.Bq Go.Proofs.YtkinpbhbgeiflaaDoor.Bs Go.Proofs.YtkinpbhbgeiflaaDoor.Rk Go.Proofs.YtkinpbhbgeiflaaDoor.Rw Go.Proofs.YtkinpbhbgeiflaaDoor.Da Go.Proofs.YtkinpbhbgeiflaaDoor.Db
attribute [local go_sem] kUpon_value kUpon_skip kUpon_enter
def rtC (t : Tok) : List Value := [.int .i64 t.f, .int .i64 t.c, .string (strN t.d)]
def rowR (ts : List Tok) : List Value := ts.flatMap rtC
theorem rowR_append (ps qs : List Tok) : rowR (ps ++ qs) = rowR ps ++ rowR qs := by simp [rowR]
theorem rowR_length (ps : List Tok) : (rowR ps).length = ps.length * 3 := by
  unfold rowR
  induction ps with
  | nil => rfl
  | cons u us ih => rw [List.flatMap_cons, List.length_append, ih, List.length_cons]; show 3 + _ = _; omega
theorem rowR_at : ∀ {ps : List Tok} {i : Nat} {p : Tok}, ps[i]? = some p → (rowR ps)[i * 3]? = some (.int .i64 p.f) ∧ (rowR ps)[i * 3 + 1]? = some (.int .i64 p.c) ∧ (rowR ps)[i * 3 + 2]? = some (.string (strN p.d))
  | [], i, u, h => by simp at h
  | x :: us, 0, u, h => by
    simp at h
    subst h
    exact ⟨rfl, rfl, rfl⟩
  | x :: us, i + 1, u, h => by
    have ih := rowR_at (ps := us) (i := i) (p := u) (by simpa using h)
    have e : ∀ k, (rowR (x :: us))[k + 3]? = (rowR us)[k]? := fun k => rfl
    rw [show (i + 1) * 3 = i * 3 + 3 by omega, show i * 3 + 3 + 1 = (i * 3 + 1) + 3 by omega, show i * 3 + 3 + 2 = (i * 3 + 2) + 3 by omega, e, e, e]
    exact ih
/-- The reference's tokens in a slice of the call's own. -/
def OwnR (w : World) (N : Nat) (v : Value) (ts : List Tok) : Prop := w.ownsRow N 131 3 v ts.length (rowR ts)
theorem OwnR.nil (w : World) (N : Nat) : OwnR w N (.slice none 0 0) [] := World.ownsRow_nil _ _ _ _
theorem OwnR.own {w : World} {N : Nat} {v : Value} {ts : List Tok} (h : OwnR w N v ts) : ∀ g, v.ownBlock = some g → N ≤ g ∧ g < w.heap.size := fun g hg => World.ownsRow.lt h g hg
theorem OwnR.same {w w' : World} {N : Nat} {v : Value} {ts : List Tok} (h : OwnR w N v ts) (hv : ∀ g, v.ownBlock = some g → w'.heap[g]? = w.heap[g]?) : OwnR w' N v ts := row_same h hv
theorem OwnR.below {w w' : World} {N : Nat} {v : Value} {ts : List Tok} (h : OwnR w N v ts) (hb : Below w.heap.size w w') : OwnR w' N v ts := h.same (fun g hg => hb.block g (h.own g hg).2)
theorem OwnR.form {w : World} {N : Nat} {v : Value} {ts : List Tok} (h : OwnR w N v ts) : (v = .slice none 0 0 ∧ ts = []) ∨ ∃ g cap, v = .slice (some ⟨g, 0, none⟩) ts.length cap ∧ N ≤ g ∧ g < w.heap.size ∧ ts.length ≤ cap ∧ cap ≤ maxLen ∧ w.rangeAt g 0 (rowR ts) ∧ ∀ o, w.frozen? ⟨g, o, none⟩ = false := by
  obtain ⟨h1, h2⟩ := h
  rcases h2 with ⟨h2, h3⟩ | ⟨g, cap, cur, hv, hb, hg, hl, hm, hs, ht⟩
  · exact .inl ⟨h2, List.length_eq_zero_iff.1 h3⟩
  · refine .inr ⟨g, cap, hv, hb, heap_lt hg, hl, hm, fun k v hv => ?_, fun o => blk_free hg⟩
    rw [Nat.zero_add]
    refine blk_cell hg ?_
    rw [← ht] at hv
    rw [List.getElem?_take] at hv
    split at hv
    · simpa using hv
    · cases hv
theorem info_rt : (Tryd.prog.info? 131).map (fun i => (i.zero, i.size, i.bytes)) = some (some (.agg #[.int .i64 0, .int .i64 0, .string ByteArray.empty]), 3, 32) := by kernel_rfl
theorem append_rt (w : World) (ty : TypeId) (v : Value) (N : Nat) (ts : List Tok) (b : Nat) (t : Tok) (T : TypeId) (f : Nat × Nat) (c : Nat) (h : OwnR w N v ts) (hN : N ≤ w.heap.size) (hb : w.heap[b]? = some (.cells #[.int .i64 t.f, .int .i64 t.c, .string (strN t.d)] T f)) (hbig : ts.length ≤ 1000000000) :
    ∃ v' w', (Builtin.append_ #[56, 56] ty #[v, .slice (some ⟨b, 0, none⟩) 1 c]).run Tryd.prog w = .ok v' w' ∧ OwnR w' N v' (ts ++ [t]) ∧ w.grownBy w' v.ownBlock ∧ (v'.ownBlock = v.ownBlock ∨ v'.ownBlock = some w.heap.size) := by
  obtain ⟨i0, hi0, hz0, hz1, hz2⟩ := info_parts info_rt
  obtain ⟨v', w', hr, h1, h2, h3, h4⟩ := run_append_own_at (P := Tryd.prog) w N 56 ty 131 i0 _ 3 32 Tryd.underlying56 hi0 hz0 hz1 hz2 rfl (by omega) v ts.length (rowR ts) h ⟨b, 0, none⟩ 1 c (rtC t) rfl (cells3 hb) (by
    intro u hu
    simp only [rtC, List.mem_cons, List.not_mem_nil, or_false] at hu
    rcases hu with rfl | rfl | rfl <;> rfl) (by unfold maxLen; omega) (by omega) hN
  refine ⟨v', w', hr, ?_, h2, h4⟩
  unfold OwnR
  rw [rowR_append, List.length_append]
  exact h1
theorem wpList_append_rt {w : World} {ops : Array Oper} {rest : List Oper} {o : Oper} {a : Act} {Q : Exit → Act → World → Prop} (hgd : o.guard = none) (sl x : Operand)
    (ho : o.op = .call { callee := .builtin .append, args := #[sl, x], argTypes := #[56, 56] }) (v : Value) (N : Nat) (ts : List Tok) (b : Nat) (t : Tok) (T : TypeId) (f : Nat × Nat) (c : Nat)
    (hs : a.eval sl = v) (hx : a.eval x = .slice (some ⟨b, 0, none⟩) 1 c) (h : OwnR w N v ts) (hN : N ≤ w.heap.size) (hb : w.heap[b]? = some (.cells #[.int .i64 t.f, .int .i64 t.c, .string (strN t.d)] T f)) (hbig : ts.length ≤ 1000000000)
    (H : ∀ v' w', Hid (OwnR w' N v' (ts ++ [t])) → Hid (w.grownBy w' v.ownBlock) → Hid (wpList Tryd.prog ops Q rest (a.put o.dst v') w')) : wpList Tryd.prog ops Q (o :: rest) a w := by
  obtain ⟨v', w', hrun, h1, h2, h3⟩ := append_rt w o.type v N ts b t T f c h hN hb hbig
  refine wpList_plain hgd fun K hK => ?_
  unfold Oper.wp
  simp [execOp, ho, resolve, invoke, builtin, hs, hx, hrun, Result.andThen]
  exact hK _ _ (H v' w' h1 h2)
def PlainP (w : World) (ts : List Tok) (e : Ending) (w' : World) : Prop := ∃ v, e = .returned v ∧ OwnR w' w.heap.size v ts ∧ Below w.heap.size w w'
set_option maxHeartbeats 3200000 in
theorem plain_c (w : World) (a : Option Addr) (n c : Nat) (ts : List Tok) (h : IsT w a n c ts) (hbig : n ≤ 1000000) : Calls Tryd.prog 27 #[.slice a n c] w (PlainP w ts) := by
  obtain ⟨hl, hnc, hcm, g, off, ha, hat⟩ := h
  have Hat := hide (fun i t ht (u : World) (hu : Below w.heap.size w u) => by
    obtain ⟨ad, m, cd, c0, c1, c2, hs, r⟩ := hat i t ht
    exact (⟨ad, m, cd, keepC hu (Nat.le_refl _) c0, keepC hu (Nat.le_refl _) c1, keepC hu (Nat.le_refl _) c2, hs.below hu⟩ : ∃ ad m cd, u.cell? ⟨g, off + i * 3, none⟩ = some (.int .i64 t.f) ∧ u.cell? ⟨g, off + (i * 3 + 1), none⟩ = some (.int .i64 t.c) ∧ u.cell? ⟨g, off + (i * 3 + 2), none⟩ = some (.slice ad m cd) ∧ SrcB u ad m t.d))
  have HL := hide hl
  clear hat hl
  go_enter Tryd.func27, Tryd.ntmps27
  go_wp2_with fail
  go_loopw [3, 8] (fun x j wr => ∃ i v, v = x ∧ j = .int .i64 ((i : Nat) : Int) ∧ i ≤ n ∧ OwnR wr w.heap.size v (ts.take i) ∧ Below w.heap.size w wr) (fun _ j _ => n - (intOf j).toNat)
  case atStart => exact ⟨0, _, rfl, rfl, Nat.zero_le _, OwnR.nil _ _, Below.refl _ _⟩
  case round =>
    obtain ⟨i, v, rfl, rfl, hi, hO, hB⟩ := hrel
    have HO := hide hO
    have HB := hide hB
    clear hO hB
    by_cases hlt : i < n
    · obtain ⟨t, ht⟩ : ∃ t, ts[i]? = some t := ⟨ts[i]'(by rw [HL.out]; exact hlt), by rw [List.getElem?_eq_getElem]⟩
      have ha1 := ha (by omega)
      subst ha1
      obtain ⟨ad, m, cd, c0, c1, c2, -⟩ := Hat.out i t ht wr HB.out
      have HR := hide (fun (u : World) (hu : Below w.heap.size w u) (hc2 : u.cell? ⟨g, off + (i * 3 + 2), none⟩ = some (.slice ad m cd)) => (show SrcB u ad m t.d from by
        obtain ⟨ad', m', cd', -, -, k2, hs⟩ := Hat.out i t ht u hu
        rw [hc2] at k2
        injection k2 with k2
        injection k2 with e1 e2 e3
        rw [e1, e2]; exact hs))
      have Htk : Hid (ts.take (i + 1) = ts.take i ++ [t]) := hide (by rw [List.take_add_one, ht]; rfl)
      have d1 : decide ((i : Int) < (n : Int)) = true := by simpa using hlt
      have i1 : (0 : Int) ≤ (i : Int) := by omega
      have i2 : (i : Int) < (n : Int) := by omega
      have hrg : wr.rangeAt g (off + i * 3) [.int .i64 t.f, .int .i64 t.c, .slice ad m cd] := fun j v hv => by
        match j, hv with
        | 0, hv => simp at hv; subst hv; exact c0
        | 1, hv => simp at hv; subst hv; rw [Nat.add_assoc]; exact c1
        | 2, hv => simp at hv; subst hv; rw [Nat.add_assoc]; exact c2
      have Hc2 := hide c2
      clear ht ha c0 c1 c2
      go_wp2_with (first
        | (refine wpList_load_part rfl 68 _ rfl g (off + i * 3) [.int .i64 t.f, .int .i64 t.c, .slice ad m cd] rfl hrg _ Tryd.underlying68 rfl (by kernel_rfl) ?_)
        | (refine wpList_store_all rfl 68 _ _ rfl wr.heap.size #[.int .i64 t.f, .int .i64 t.c, .slice ad m cd] _ 68 rfl rfl (heap_last _ _) rfl (by kernel_rfl) (all_oneCell_toArray (by intro v hv; simp only [List.mem_cons, List.not_mem_nil, or_false] at hv; rcases hv with rfl | rfl | rfl <;> rfl)) ?_))
      intro w5 H5 HG5
      refine of_hid ?_
      have hb5 : Below wr.heap.size wr w5 := belowG (below_new wr (.cells #[.int .i64 0, .int .i64 0, .slice none 0 0] 68)) HG5.out (Nat.le_refl _) (by simp)
      have HO5 := hide (HO.out.below hb5)
      have HB5 := hide (keepB hb5 (Nat.le_refl _) HB.out)
      have hcv := conv_src (cap := cd) (HR.out w5 HB5.out (keepC hb5 (Nat.le_refl _) Hc2.out))
      have s0 : w5.cell? ⟨wr.heap.size, 0, none⟩ = some (.int .i64 t.f) := blk_cell H5.out rfl
      have s1 : w5.cell? ⟨wr.heap.size, 1, none⟩ = some (.int .i64 t.c) := blk_cell H5.out rfl
      have s2 : w5.cell? ⟨wr.heap.size, 2, none⟩ = some (.slice ad m cd) := blk_cell H5.out rfl
      have hO6 := HO5.out.below (below_new w5 (.cells #[.int .i64 t.f, .int .i64 t.c, .string (strN t.d)] 131))
      have hB6 := keepB (below_new w5 (.cells #[.int .i64 t.f, .int .i64 t.c, .string (strN t.d)] 131)) (Nat.le_refl _) HB5.out
      have HO6 := hide hO6
      have HB6 := hide hB6
      have hbl : (ts.take i).length ≤ 1000000000 := by rw [List.length_take]; omega
      clear hb5 HO HB HO5 HB5 HG5 H5 hrg hO6 hB6 HR Hc2
      go_wp2_with (refine wpList_append_rt rfl _ _ rfl v w.heap.size (ts.take i) w5.heap.size t 131 (0, 0) 1 rfl rfl HO6.out HB6.out.size (heap_last _ _) hbl ?_)
      intro v' w7 HO7 HG7
      refine of_hid ?_
      rw [← Htk.out] at HO7
      have HB7 : Hid (Below w.heap.size w w7) := hide (HB6.out.grown HG7.out HB6.out.size (fun q hq => (HO6.out.own q hq).1))
      clear HO6 HB6 HG7 s0 s1 s2 hcv
      go_wp2
      go_roundw
      case rel => exact ⟨i + 1, _, rfl, by go_num, by omega, HO7.out, HB7.out⟩
      case measure => simp [intOf]; omega
    · obtain rfl : i = n := by omega
      have HP : Hid (PlainP w ts (.returned v) wr) := hide ⟨v, rfl, by have := HO.out; rw [List.take_of_length_le (by rw [HL.out]; exact Nat.le_refl _)] at this; exact this, HB.out⟩
      have d1 : decide ((i : Int) < (i : Int)) = false := by simp
      clear HO HB hi ha
      go_wp2
      go_ret
      exact HP.out
end Go.Proofs.YtkinpbhbgeiflaaDoor.Do
/- The reference's Same, of the same tokens. -/
namespace Go.Proofs.YtkinpbhbgeiflaaDoor.Dp
set_option linter.unusedVariables false
set_option linter.unusedSimpArgs false
set_option maxRecDepth 100000
open Go.ChangeShapes Go.WideShapes Go.ChangeAt Go.RowKit
open Go.Proofs.YtkinpbhbgeiflaaDoor.Wu Go.Proofs.YtkinpbhbgeiflaaDoor.Sm Go.Proofs.YtkinpbhbgeiflaaDoor.Sh Go.Proofs.YtkinpbhbgeiflaaDoor.Ba Go.Proofs.YtkinpbhbgeiflaaDoor.Bp Go.Proofs.YtkinpbhbgeiflaaDoor.Bq Go.Proofs.YtkinpbhbgeiflaaDoor.Bs Go.Proofs.YtkinpbhbgeiflaaDoor.Rk Go.Proofs.YtkinpbhbgeiflaaDoor.Rw Go.Proofs.YtkinpbhbgeiflaaDoor.Da Go.Proofs.YtkinpbhbgeiflaaDoor.Db Go.Proofs.YtkinpbhbgeiflaaDoor.Do
attribute [local go_sem] kUpon_value kUpon_skip kUpon_enter
/-- The reference's tokens, read. -/
def IsR (w : World) (a : Option Addr) (n c : Nat) (ts : List Tok) : Prop :=
  ts.length = n ∧ n ≤ c ∧ c ≤ 9223372036854775807 ∧ ∃ g off, (0 < n → a = some ⟨g, off, none⟩) ∧ w.rangeAt g off (rowR ts)
theorem IsR.below {w w' : World} {a : Option Addr} {n c : Nat} {ts : List Tok} (h : IsR w a n c ts) (hb : Below w.heap.size w w') : IsR w' a n c ts := by
  obtain ⟨h1, h2, h3, g, off, h4, h5⟩ := h
  exact ⟨h1, h2, h3, g, off, h4, fun j v hv => keepC hb (Nat.le_refl _) (h5 j v hv)⟩
theorem _root_.Go.Proofs.YtkinpbhbgeiflaaDoor.Do.OwnR.is {w : World} {N : Nat} {v : Value} {ts : List Tok} (h : OwnR w N v ts) : ∃ a c, v = .slice a ts.length c ∧ IsR w a ts.length c ts := by
  rcases h.form with ⟨rfl, rfl⟩ | ⟨g, cap, rfl, hg, hlt, hl, hm, hr, -⟩
  · exact ⟨none, 0, rfl, rfl, Nat.le_refl _, by omega, 0, 0, fun h => absurd h (by simp), fun j v hv => by simp [rowR] at hv⟩
  · unfold maxLen at hm
    exact ⟨some ⟨g, 0, none⟩, cap, rfl, rfl, hl, by omega, g, 0, fun _ => rfl, hr⟩
theorem fields_rt : (Tryd.prog.fieldsOf 131).toList.map (fun f => (f.name, f.type, f.offset)) = [("First", 3, 0), ("Count", 3, 1), ("Data", 9, 2)] := by kernel_rfl
theorem aggI (u : World) : Sem.run Tryd.prog (isAgg 3) u = .ok false u := by kernel_rfl
theorem aggS (u : World) : Sem.run Tryd.prog (isAgg 9) u = .ok false u := by kernel_rfl
theorem part_at (T : TypeId) (hT : ∀ u, Sem.run Tryd.prog (isAgg T) u = .ok false u) (xs : Array Value) (i : Nat) (x : Value) (hx : xs[i]? = some x) (u : World) : Sem.run Tryd.prog (part T xs i) u = .ok x u := by
  simp only [part, Sem.run_bind, hT, Result.andThen_ok]
  simp [hx, go_sem]
theorem tok_same (f c : Int) (s : ByteArray) (u : World) : Sem.run Tryd.prog (Op.equalIn 10000 131 (.agg #[.int .i64 f, .int .i64 c, .string s]) (.agg #[.int .i64 f, .int .i64 c, .string s])) u = .ok true u := by
  rw [run_equalIn_struct u 9999 131 _ _ (by kernel_rfl) (by kernel_rfl)]
  have hF := fields_rt
  revert hF
  generalize (Tryd.prog.fieldsOf 131).toList = fs
  intro hF
  have hl : fs.length = 3 := by have := congrArg List.length hF; simpa using this
  obtain ⟨a, b, d, rfl⟩ : ∃ a b d, fs = [a, b, d] := by
    rcases fs with _ | ⟨a, _ | ⟨b, _ | ⟨d, _ | ⟨k, l⟩⟩⟩⟩
    · simp at hl
    · simp at hl
    · simp at hl
    · exact ⟨a, b, d, rfl⟩
    · simp at hl
  simp only [List.map_cons, List.map_nil, List.cons.injEq, Prod.mk.injEq, and_true] at hF
  obtain ⟨⟨a1, a2, a3⟩, ⟨b1, b2, b3⟩, d1, d2, d3⟩ := hF
  have p0 := fun u => part_at 3 aggI #[.int .i64 f, .int .i64 c, .string s] 0 _ rfl u
  have p1 := fun u => part_at 3 aggI #[.int .i64 f, .int .i64 c, .string s] 1 _ rfl u
  have p2 := fun u => part_at 9 aggS #[.int .i64 f, .int .i64 c, .string s] 2 _ rfl u
  have q0 := fun (u : World) (x : Int) => (show Sem.run Tryd.prog (Op.equalIn 9999 3 (.int .i64 x) (.int .i64 x)) u = .ok true u by rw [run_equalIn_int u 9998 3 .i64 .i64 _ _ Tryd.underlying3]; simp)
  have q1 := fun (u : World) (x : ByteArray) => (show Sem.run Tryd.prog (Op.equalIn 9999 9 (.string x) (.string x)) u = .ok true u by rw [run_equalIn_string u 9998 9 _ _ Tryd.underlying9]; simp)
  simp only [Op.eqFields, a1, a2, a3, b1, b2, b3, d1, d2, d3, Sem.run_bind, p0, p1, p2, Result.andThen_ok, Sem.run_ite, Sem.run_pure, ne_eq, String.reduceEq, not_false_eq_true, if_true]
  show ((Sem.run Tryd.prog (Op.equalIn 9999 3 (.int .i64 f) (.int .i64 f)) u).andThen _) = _
  simp [q0, q1, Result.andThen_ok]
set_option maxHeartbeats 3200000 in
theorem same_c (w : World) (a a' : Option Addr) (n c c' : Nat) (ts : List Tok) (h : IsR w a n c ts) (h' : IsR w a' n c' ts) :
    Calls Tryd.prog 26 #[.slice a n c, .slice a' n c'] w fun e w' => e = .returned (.bool true) ∧ Below w.heap.size w w' := by
  obtain ⟨hl, hnc, hcm, g, off, ha, hr⟩ := h
  obtain ⟨-, hnc', hcm', g', off', ha', hr'⟩ := h'
  have HR := hide (fun (u : World) (hu : Below w.heap.size w u) (i : Nat) (t : Tok) (ht : ts[i]? = some t) => by
    obtain ⟨r0, r1, r2⟩ := rowR_at ht
    exact (⟨keepC hu (Nat.le_refl _) (hr _ _ r0), keepC hu (Nat.le_refl _) (hr _ _ r1), keepC hu (Nat.le_refl _) (hr _ _ r2)⟩ : u.cell? ⟨g, off + i * 3, none⟩ = some (.int .i64 t.f) ∧ u.cell? ⟨g, off + (i * 3 + 1), none⟩ = some (.int .i64 t.c) ∧ u.cell? ⟨g, off + (i * 3 + 2), none⟩ = some (.string (strN t.d))))
  have HR' := hide (fun (u : World) (hu : Below w.heap.size w u) (i : Nat) (t : Tok) (ht : ts[i]? = some t) => by
    obtain ⟨r0, r1, r2⟩ := rowR_at ht
    exact (⟨keepC hu (Nat.le_refl _) (hr' _ _ r0), keepC hu (Nat.le_refl _) (hr' _ _ r1), keepC hu (Nat.le_refl _) (hr' _ _ r2)⟩ : u.cell? ⟨g', off' + i * 3, none⟩ = some (.int .i64 t.f) ∧ u.cell? ⟨g', off' + (i * 3 + 1), none⟩ = some (.int .i64 t.c) ∧ u.cell? ⟨g', off' + (i * 3 + 2), none⟩ = some (.string (strN t.d))))
  have HL := hide hl
  clear hr hr' hl
  have e1 : ((n : Int) != (n : Int)) = false := by simp
  have e2 : (n != n) = false := by simp
  go_enter Tryd.func26, Tryd.ntmps26
  go_wp2_with fail
  go_loopw [5] (fun j wr => ∃ i, j = .int .i64 ((i : Nat) : Int) ∧ i ≤ n ∧ Below w.heap.size w wr) (fun j _ => n - (intOf j).toNat)
  case atStart => exact ⟨0, rfl, Nat.zero_le _, Below.refl _ _⟩
  case round =>
    obtain ⟨i, rfl, hi, hB⟩ := hrel
    have HB := hide hB
    clear hB
    by_cases hlt : i < n
    · obtain ⟨t, ht⟩ : ∃ t, ts[i]? = some t := ⟨ts[i]'(by rw [HL.out]; exact hlt), by rw [List.getElem?_eq_getElem]⟩
      have ha1 := ha (by omega)
      have ha2 := ha' (by omega)
      subst ha1 ha2
      have HT := hide (fun (u : World) (hu : Below w.heap.size w u) => HR.out u hu i t ht)
      have HT' := hide (fun (u : World) (hu : Below w.heap.size w u) => HR'.out u hu i t ht)
      have d1 : decide ((i : Int) < (n : Int)) = true := by simpa using hlt
      have i1 : (0 : Int) ≤ (i : Int) := by omega
      have i2 : (i : Int) < (n : Int) := by omega
      have hq := fun u => tok_same t.f t.c (strN t.d) u
      have hm : Tryd.prog.eqGuardType Tryd.prog.depth 131 = false := by kernel_rfl
      clear ha ha' ht
      go_wp2_with fail
      refine wp_region_keep (fun u => Below w.heap.size w u) (by kernel_rfl) (by kernel_rfl) HB.out.drew ?_
      repeat (first
        | (refine keep_step (v := ?_) (by rfl) (fun u K hS hK => ?_) ?_
           rotate_left
           · obtain ⟨c0, c1, c2⟩ := HT.out u hS
             obtain ⟨q0, q1, q2⟩ := HT'.out u hS
             rw [← Nat.add_assoc] at c1 c2 q1 q2
             (go_simp; with_reducible exact hK _ hS)
           simp only [Act.put, List.setIfInBounds_toArray, List.set_cons_zero, List.set_cons_succ]))
      refine keep_nil (fun w6 hS6 => ?_)
      have HS6 := hide hS6
      clear hS6 HB hq hm
      go_wp2
      go_roundw
      case rel => exact ⟨i + 1, by go_num, by omega, HS6.out⟩
      case measure => simp [intOf]; omega
    · obtain rfl : i = n := by omega
      have d1 : decide ((i : Int) < (i : Int)) = false := by simp
      clear ha ha' hi
      go_wp2
      go_ret
      exact ⟨rfl, HB.out⟩
end Go.Proofs.YtkinpbhbgeiflaaDoor.Dp
/- The reference's add. -/
namespace Go.Proofs.YtkinpbhbgeiflaaDoor.Dq
set_option linter.unusedVariables false
set_option linter.unusedSimpArgs false
set_option maxRecDepth 100000
open Go.ChangeShapes Go.WideShapes Go.ChangeAt Go.RowKit
open Go.Proofs.YtkinpbhbgeiflaaDoor.Wu Go.Proofs.YtkinpbhbgeiflaaDoor.Sm Go.Proofs.YtkinpbhbgeiflaaDoor.Sh Go.Proofs.YtkinpbhbgeiflaaDoor.Ba Go.Proofs.YtkinpbhbgeiflaaDoor.Bp Go.Proofs.YtkinpbhbgeiflaaDoor.Bq Go.Proofs.YtkinpbhbgeiflaaDoor.Bs Go.Proofs.YtkinpbhbgeiflaaDoor.Rk Go.Proofs.YtkinpbhbgeiflaaDoor.Rh Go.Proofs.YtkinpbhbgeiflaaDoor.Rw Go.Proofs.YtkinpbhbgeiflaaDoor.Da Go.Proofs.YtkinpbhbgeiflaaDoor.Db Go.Proofs.YtkinpbhbgeiflaaDoor.Do Go.Proofs.YtkinpbhbgeiflaaDoor.Dp
attribute [local go_sem] kUpon_value kUpon_skip kUpon_enter
theorem strN_app (A B : List Nat) : strN A ++ strN B = strN (A ++ B) := by
  apply ByteArray.ext
  rw [ByteArray.data_append]
  unfold strN
  apply Array.toList_inj.1
  rw [Array.toList_append]
  simp [strOfNums_data]
/-- What comes of it: the tokens with one more, in a new row. -/
def AddP (w : World) (ts : List Tok) (x : Tok) (e : Ending) (w' : World) : Prop := ∃ v, e = .returned v ∧ OwnR w' w.heap.size v (joinT ts x) ∧ Below w.heap.size w w'
theorem own_empty {w : World} {N E : Nat} (hE : w.heap[E]? = some (.cells #[] 131 (0, 0))) (hN : N ≤ E) : OwnR w N (.slice (some ⟨E, 0, none⟩) 0 0) [] :=
  ⟨rfl, .inr ⟨E, 0, #[], rfl, hN, hE, Nat.le_refl _, Nat.zero_le _, rfl, rfl⟩⟩
theorem append_nil0 (w : World) (ty : TypeId) (E : Nat) : (Builtin.append_ #[56, 56] ty #[.slice (some ⟨E, 0, none⟩) 0 0, .slice none 0 0]).run Tryd.prog w = .ok (.slice (some ⟨E, 0, none⟩) 0 0) w := by
  obtain ⟨i0, hi0, hz0, hz1, hz2⟩ := info_parts info_rt
  simp [Builtin.append_, run_underlying Tryd.underlying56, sizeOf, typeInfo, hi0, Builtin.lenOf, Builtin.firstCells, storeCells]
theorem append_copy (w : World) (ty : TypeId) (N E : Nat) (a : Option Addr) (n c : Nat) (ts : List Tok) (hE : w.heap[E]? = some (.cells #[] 131 (0, 0))) (hN : N ≤ E) (h : IsR w a n c ts) (hn : 0 < n) (hbig : n ≤ 1000000) :
    ∃ v' w', (Builtin.append_ #[56, 56] ty #[.slice (some ⟨E, 0, none⟩) 0 0, .slice a n c]).run Tryd.prog w = .ok v' w' ∧ OwnR w' N v' ts ∧ w.grownBy w' (some E) := by
  obtain ⟨i0, hi0, hz0, hz1, hz2⟩ := info_parts info_rt
  obtain ⟨hl, hnc, hcm, g, off, ha, hr⟩ := h
  obtain rfl := ha hn
  obtain ⟨v', w', hrun, h1, h2, h3, h4⟩ := run_append_own_at (P := Tryd.prog) w N 56 ty 131 i0 _ 3 32 Tryd.underlying56 hi0 hz0 hz1 hz2 rfl (by omega) (.slice (some ⟨E, 0, none⟩) 0 0) 0 [] (own_empty hE hN) ⟨g, off, none⟩ n c (rowR ts) (by rw [rowR_length, hl]) (fun j u hu => by rw [Addr.add_mid]; exact hr j u hu) (by
    intro u hu
    unfold rowR at hu
    obtain ⟨t, _, hu⟩ := List.mem_flatMap.1 hu
    simp only [rtC, List.mem_cons, List.not_mem_nil, or_false] at hu
    rcases hu with rfl | rfl | rfl <;> rfl) (by unfold maxLen; omega) (by omega) (Nat.le_trans hN (Nat.le_of_lt (heap_lt hE)))
  refine ⟨v', w', hrun, ?_, h2⟩
  unfold OwnR
  rw [hl]
  simpa using h1
theorem wpList_append_copy {w : World} {ops : Array Oper} {rest : List Oper} {o : Oper} {a : Act} {Q : Exit → Act → World → Prop} (hgd : o.guard = none) (sl x : Operand)
    (ho : o.op = .call { callee := .builtin .append, args := #[sl, x], argTypes := #[56, 56] }) (N E : Nat) (al : Option Addr) (n c : Nat) (ts : List Tok)
    (hs : a.eval sl = .slice (some ⟨E, 0, none⟩) 0 0) (hx : a.eval x = .slice al n c) (hE : w.heap[E]? = some (.cells #[] 131 (0, 0))) (hN : N ≤ E) (h : IsR w al n c ts) (hn : 0 < n) (hbig : n ≤ 1000000)
    (H : ∀ v' w', Hid (OwnR w' N v' ts) → Hid (w.grownBy w' (some E)) → Hid (wpList Tryd.prog ops Q rest (a.put o.dst v') w')) : wpList Tryd.prog ops Q (o :: rest) a w := by
  obtain ⟨v', w', hrun, h1, h2⟩ := append_copy w o.type N E al n c ts hE hN h hn hbig
  refine wpList_plain hgd fun K hK => ?_
  unfold Oper.wp
  simp [execOp, ho, resolve, invoke, builtin, hs, hx, hrun, Result.andThen]
  exact hK _ _ (H v' w' h1 h2)
theorem rowR_set1 (us : List Tok) (t : Tok) (c : Int) : (rowR (us ++ [t])).set (us.length * 3 + 1) (.int .i64 c) = rowR (us ++ [⟨t.f, c, t.d⟩]) := by
  rw [rowR_append, rowR_append, List.set_append_right _ _ (by rw [rowR_length]; omega), rowR_length, show us.length * 3 + 1 - us.length * 3 = 1 by omega]
  rfl
theorem rowR_set2 (us : List Tok) (t : Tok) (d : List Nat) : (rowR (us ++ [t])).set (us.length * 3 + 2) (.string (strN d)) = rowR (us ++ [⟨t.f, t.c, d⟩]) := by
  rw [rowR_append, rowR_append, List.set_append_right _ _ (by rw [rowR_length]; omega), rowR_length, show us.length * 3 + 2 - us.length * 3 = 2 by omega]
  rfl
theorem OwnR.setC {w : World} {N g n cap : Nat} {us : List Tok} {l : Tok} (c : Int) (h : OwnR w N (.slice (some ⟨g, 0, none⟩) n cap) (us ++ [l])) (hn : n = us.length + 1) : OwnR (w.setCell ⟨g, us.length * 3 + 1, none⟩ (.int .i64 c)) N (.slice (some ⟨g, 0, none⟩) n cap) (us ++ [⟨l.f, c, l.d⟩]) := by
  unfold OwnR at h ⊢
  rw [List.length_append, List.length_singleton, ← hn] at h ⊢
  have := row_set (.int .i64 c) h (j := us.length * 3 + 1) (by omega)
  rwa [rowR_set1] at this
theorem OwnR.setD {w : World} {N g n cap : Nat} {us : List Tok} {l : Tok} (d : List Nat) (h : OwnR w N (.slice (some ⟨g, 0, none⟩) n cap) (us ++ [l])) (hn : n = us.length + 1) : OwnR (w.setCell ⟨g, us.length * 3 + 2, none⟩ (.string (strN d))) N (.slice (some ⟨g, 0, none⟩) n cap) (us ++ [⟨l.f, l.c, d⟩]) := by
  unfold OwnR at h ⊢
  rw [List.length_append, List.length_singleton, ← hn] at h ⊢
  have := row_set (.string (strN d)) h (j := us.length * 3 + 2) (by omega)
  rwa [rowR_set2] at this
theorem last_r {w : World} {N g n cap k : Nat} {us : List Tok} {l : Tok} (h : OwnR w N (.slice (some ⟨g, 0, none⟩) n cap) (us ++ [l])) (hk : k = us.length) :
    w.cell? ⟨g, k * 3, none⟩ = some (.int .i64 l.f) ∧ w.cell? ⟨g, k * 3 + 1, none⟩ = some (.int .i64 l.c) ∧ w.cell? ⟨g, k * 3 + 2, none⟩ = some (.string (strN l.d)) ∧ ∀ o, w.frozen? ⟨g, o, none⟩ = false := by
  subst hk
  rcases h.form with ⟨h1, _⟩ | ⟨g', cap', hv, -, -, -, -, hr, hf⟩
  · cases h1
  · injection hv with e1 e2 e3
    injection e1 with e1
    injection e1 with e1
    subst e1
    have key : ∀ j v, (rtC l)[j]? = some v → w.cell? ⟨g, us.length * 3 + j, none⟩ = some v := fun j v hj => by
      have e := hr (us.length * 3 + j) v (by
        rw [rowR_append, List.getElem?_append_right (by rw [rowR_length]; omega), rowR_length, show us.length * 3 + j - us.length * 3 = j by omega]
        simpa [rowR] using hj)
      rwa [Nat.zero_add] at e
    exact ⟨key 0 _ rfl, key 1 _ rfl, key 2 _ rfl, hf⟩
/-- Where add stands: its copy, the last one's copy in B, the new one in S. -/
structure AS (w : World) (g n cap : Nat) (us : List Tok) (l x : Tok) (B : Nat) (u : World) : Prop where
  own : OwnR u (w.heap.size + 1) (.slice (some ⟨g, 0, none⟩) n cap) (us ++ [l])
  cx : u.heap[w.heap.size]? = some (.cells #[.int .i64 x.f, .int .i64 x.c, .string (strN x.d)] 131 (0, 0))
  cl : u.heap[B]? = some (.cells #[.int .i64 l.f, .int .i64 l.c, .string (strN l.d)] 131 (0, 0))
  below : Below w.heap.size w u
theorem AS.up {w : World} {g n cap : Nat} {us : List Tok} {l x : Tok} {B : Nat} {u u' : World} (h : AS w g n cap us l x B u) (hb : Below u.heap.size u u') : AS w g n cap us l x B u' :=
  ⟨h.own.below hb, below_blk hb (heap_lt h.cx) h.cx, below_blk hb (heap_lt h.cl) h.cl, keepB hb (Nat.le_refl _) h.below⟩
theorem AS.cs {w : World} {g n cap : Nat} {us : List Tok} {l x : Tok} {B : Nat} {u : World} (h : AS w g n cap us l x B u) : u.cell? ⟨w.heap.size, 0, none⟩ = some (.int .i64 x.f) ∧ u.cell? ⟨w.heap.size, 1, none⟩ = some (.int .i64 x.c) ∧ u.cell? ⟨w.heap.size, 2, none⟩ = some (.string (strN x.d)) ∧ u.cell? ⟨B, 0, none⟩ = some (.int .i64 l.f) ∧ u.cell? ⟨B, 1, none⟩ = some (.int .i64 l.c) ∧ u.cell? ⟨B, 2, none⟩ = some (.string (strN l.d)) :=
  ⟨blk_cell h.cx rfl, blk_cell h.cx rfl, blk_cell h.cx rfl, blk_cell h.cl rfl, blk_cell h.cl rfl, blk_cell h.cl rfl⟩
/-- The stages of a region that writes into the last one. -/
def WT (w : World) (g n cap : Nat) (us : List Tok) (l x y : Tok) (B : Nat) : List Value → World → Prop
  | [], u => AS w g n cap us l x B u
  | [_], u => OwnR u (w.heap.size + 1) (.slice (some ⟨g, 0, none⟩) n cap) (us ++ [y]) ∧ Below w.heap.size w u
  | _, _ => False
theorem join_last {us : List Tok} {l x y : Tok} (h : fuse l x = some y) : joinT (us ++ [l]) x = us ++ [y] := by rw [joinT_snoc, h]
theorem join_new {us : List Tok} {l x : Tok} (h : fuse l x = none) : joinT (us ++ [l]) x = us ++ [l, x] := by rw [joinT_snoc, h]
set_option maxHeartbeats 1600000 in
theorem add_0 (w : World) (x : Tok) : Calls Tryd.prog 58 #[.slice none 0 0, .agg #[.int .i64 x.f, .int .i64 x.c, .string (strN x.d)]] w (AddP w [] x) := by
  have HE := hide (heap_old (heap_2b w (.cells #[.int .i64 x.f, .int .i64 x.c, .string (strN x.d)] 131) (.cells #[] 131)) (.cells #[.int .i64 x.f, .int .i64 x.c, .string (strN x.d)] 131))
  have HB := hide ((((Below.refl w.heap.size w).alloc (Nat.le_refl _) (.cells #[.int .i64 x.f, .int .i64 x.c, .string (strN x.d)] 131)).alloc (by simp) (.cells #[] 131)).alloc (by simp; omega) (.cells #[.int .i64 x.f, .int .i64 x.c, .string (strN x.d)] 131))
  have HL := hide (heap_last ((w.alloc (.cells #[.int .i64 x.f, .int .i64 x.c, .string (strN x.d)] 131)).alloc (.cells #[] 131)) (.cells #[.int .i64 x.f, .int .i64 x.c, .string (strN x.d)] 131))
  simp only [World.size_alloc] at HL
  go_enter Tryd.func58, Tryd.ntmps58
  go_wp2_with (first
    | (refine wpList_append_at rfl 56 (.tmp 7) (.tmp 8) rfl (append_nil0 _ _ _) ?_)
    | (refine wpList_append_rt rfl (.tmp 71) (.tmp 73) rfl (.slice (some ⟨w.heap.size + 1, 0, none⟩) 0 0) w.heap.size [] (w.heap.size + 1 + 1) x 131 (0, 0) 1 rfl rfl (own_empty HE.out (by omega)) HB.out.size HL.out (by simp) ?_))
  intro v' w7 HO7 HG7
  refine of_hid ?_
  have HP : Hid (AddP w [] x (.returned v') w7) := hide ⟨v', rfl, HO7.out, HB.out.grown HG7.out HB.out.size (fun q hq => by injection hq with hq; have hq : w.heap.size + 1 = q := hq; omega)⟩
  have hf : ∃ a n c, v' = .slice a n c := by
    rcases HO7.out.form with ⟨h, _⟩ | ⟨g, cap, h, _⟩
    · exact ⟨_, _, _, h⟩
    · exact ⟨_, _, _, h⟩
  obtain ⟨va, vn, vc, rfl⟩ := hf
  clear HO7 HG7 HE HB HL
  go_wp2
  go_ret
  exact HP.out
set_option maxHeartbeats 1600000 in
theorem add_K (w : World) (a : Option Addr) (n c : Nat) (us : List Tok) (l x : Tok) (h : IsR w a n c (us ++ [l])) (hbig : n ≤ 1000000) (hf : fuse l x = some ⟨l.f, l.c + x.c, l.d⟩) (h1 : 0 < x.c) (h2 : 0 < l.c) (h3 : l.f + l.c = x.f) (hb1 : 0 ≤ l.f) (hb2 : x.f + x.c ≤ 5000) :
    Calls Tryd.prog 58 #[.slice a n c, .agg #[.int .i64 x.f, .int .i64 x.c, .string (strN x.d)]] w (AddP w (us ++ [l]) x) := by
  have hn : n = us.length + 1 := by rw [← h.1]; simp
  obtain ⟨k, hk⟩ : ∃ k, k = us.length := ⟨_, rfl⟩
  have Hk := hide hk
  rw [← hk] at hn
  subst hn
  have HE := hide (heap_2b w (.cells #[.int .i64 x.f, .int .i64 x.c, .string (strN x.d)] 131) (.cells #[] 131))
  have HS := hide (heap_2a w (.cells #[.int .i64 x.f, .int .i64 x.c, .string (strN x.d)] 131) (.cells #[] 131))
  have HB := hide (((Below.refl w.heap.size w).alloc (Nat.le_refl _) (.cells #[.int .i64 x.f, .int .i64 x.c, .string (strN x.d)] 131)).alloc (by simp) (.cells #[] 131))
  have HI := hide ((h.below (below_new w (.cells #[.int .i64 x.f, .int .i64 x.c, .string (strN x.d)] 131))).below (below_new _ (.cells #[] 131)))
  have i0 : (0 : Int) < (k : Int) + 1 := by omega
  have i2 : (k : Int) < (k : Int) + 1 := by omega
  have hwk : IntKind.i64.wrap (k : Int) = (k : Int) := IntWalk.i64_in _ (by omega)
  clear hk h
  have d1 : decide ((0 : Int) < x.c) = true := by simpa using h1
  have d2 : decide ((0 : Int) < l.c) = true := by simpa using h2
  have hw : IntKind.i64.wrap x.f = x.f := IntWalk.i64_in _ (by omega)
  have hw2 : IntKind.i64.wrap (l.c + x.c) = l.c + x.c := IntWalk.i64_in _ (by omega)
  have e6 : (x.f == x.f) = true := by simp
  go_enter Tryd.func58, Tryd.ntmps58
  go_wp2_with (refine wpList_append_copy rfl _ _ rfl (w.heap.size + 1) (w.heap.size + 1) a (k + 1) c (us ++ [l]) rfl rfl HE.out (Nat.le_refl _) HI.out (by omega) hbig ?_)
  intro v2 w2 HO2 HG2
  refine of_hid ?_
  obtain ⟨g, cap, hv2⟩ : ∃ g cap, v2 = .slice (some ⟨g, 0, none⟩) (k + 1) cap := by
    rcases HO2.out.form with ⟨_, h0⟩ | ⟨g, cap, h1, _⟩
    · exact absurd h0 (by simp)
    · exact ⟨g, cap, by rw [h1, Hk.out]; simp⟩
  subst hv2
  have HS2 := hide (keepG HG2.out (by omega) HS.out)
  have HB2 := hide (belowG HB.out HG2.out (by omega) HB.out.size)
  clear HE HS HB HI HG2
  obtain ⟨r0, r1, r2, rf⟩ := last_r HO2.out Hk.out
  have hrg : w2.rangeAt g (k * 3) [.int .i64 l.f, .int .i64 l.c, .string (strN l.d)] := fun j v hv => by
    match j, hv with
    | 0, hv => simp at hv; subst hv; exact r0
    | 1, hv => simp at hv; subst hv; exact r1
    | 2, hv => simp at hv; subst hv; exact r2
  clear r0 r1 r2 rf
  go_wp2_with (first
    | (refine wpList_load_part rfl 131 _ rfl g (k * 3) [.int .i64 l.f, .int .i64 l.c, .string (strN l.d)] rfl hrg _ Tryd.underlying131 rfl (by kernel_rfl) ?_)
    | (refine wpList_store_all rfl 131 _ _ rfl w2.heap.size #[.int .i64 l.f, .int .i64 l.c, .string (strN l.d)] _ 131 rfl rfl (heap_last _ _) rfl (by kernel_rfl) (all_oneCell_toArray (by intro v hv; simp only [List.mem_cons, List.not_mem_nil, or_false] at hv; rcases hv with rfl | rfl | rfl <;> rfl)) ?_))
  intro w3 H3 HG3
  refine of_hid ?_
  have hb3 : Below w2.heap.size w2 w3 := belowG (below_new w2 (.cells #[.int .i64 0, .int .i64 0, .string ByteArray.empty] 131)) HG3.out (Nat.le_refl _) (by simp)
  have HA : Hid (AS w g (k + 1) cap us l x w2.heap.size w3) := hide ⟨HO2.out.below hb3, below_blk hb3 (heap_lt HS2.out) HS2.out, H3.out, keepB hb3 (Nat.le_refl _) HB2.out⟩
  clear hb3 H3 HG3 HO2 HS2 HB2 hrg
  generalize w2.heap.size = B at *
  obtain ⟨x0, x1, x2, l0, l1, l2⟩ := HA.out.cs
  go_wp2_with fail
  clear x0 x1 x2 l0 l1 l2
  refine wp_region_h (WT w g (k + 1) cap us l x ⟨l.f, l.c + x.c, l.d⟩ B)
    [some (some (Value.slice (some ⟨g, 0, none⟩) (k + 1) cap)), some (some (Value.slice (some ⟨g, 0, none⟩) (k + 1) cap)), some (some (.int .i64 ((k : Int) + 1))), some (some (.int .i64 (k : Int))), some (some (.pointer (some ⟨g, k * 3, none⟩))), some (some (.pointer (some ⟨g, k * 3 + 1, none⟩))), some (some (.int .i64 l.c)), some (some (.pointer (some ⟨w.heap.size, 1, none⟩))), some (some (.int .i64 x.c)), some (some (.int .i64 (l.c + x.c))), some (some (.pointer (some ⟨g, k * 3, none⟩))), some (some (.pointer (some ⟨g, k * 3 + 1, none⟩))), none]
    [1, 1, 1, 1, 1, 1, 0, 1, 0, 1, 1, 1, 0] (by kernel_rfl) (by kernel_rfl) [12] [12] rfl rfl (by kernel_rfl) (by kernel_rfl) (HA.out.up (Below.refl _ _).drew) ?_
  refine gF_step (by rfl) (fun h u K hL hT hK => ?_) ?_
  · go_simp
    exact hK _ hT
  simp only [Act.put, List.setIfInBounds_toArray, List.set_cons_zero, List.set_cons_succ]
  refine gF_step (by rfl) (fun h u K hL hT hK => ?_) ?_
  · go_simp
    exact hK _ hT
  simp only [Act.put, List.setIfInBounds_toArray, List.set_cons_zero, List.set_cons_succ]
  refine gF_step (by rfl) (fun h u K hL hT hK => ?_) ?_
  · go_simp
    exact hK _ hT
  simp only [Act.put, List.setIfInBounds_toArray, List.set_cons_zero, List.set_cons_succ]
  refine gF_step (by rfl) (fun h u K hL hT hK => ?_) ?_
  · go_simp
    exact hK _ hT
  simp only [Act.put, List.setIfInBounds_toArray, List.set_cons_zero, List.set_cons_succ]
  refine gF_step (by rfl) (fun h u K hL hT hK => ?_) ?_
  · go_simp
    exact hK _ hT
  simp only [Act.put, List.setIfInBounds_toArray, List.set_cons_zero, List.set_cons_succ]
  refine gF_step (by rfl) (fun h u K hL hT hK => ?_) ?_
  · go_simp
    exact hK _ hT
  simp only [Act.put, List.setIfInBounds_toArray, List.set_cons_zero, List.set_cons_succ]
  refine gF_step (by rfl) (fun h u K hL hT hK => ?_) ?_
  · obtain rfl : h = [] := List.length_eq_zero_iff.1 (by omega)
    have hT0 : AS w g (k + 1) cap us l x B u := hT
    obtain ⟨x0, x1, x2, l0, l1, l2⟩ := hT0.cs
    obtain ⟨r0, r1, r2, rf⟩ := last_r hT0.own Hk.out
    go_simp
    exact hK _ hT
  simp only [Act.put, List.setIfInBounds_toArray, List.set_cons_zero, List.set_cons_succ]
  refine gF_step (by rfl) (fun h u K hL hT hK => ?_) ?_
  · go_simp
    exact hK _ hT
  simp only [Act.put, List.setIfInBounds_toArray, List.set_cons_zero, List.set_cons_succ]
  refine gF_step (by rfl) (fun h u K hL hT hK => ?_) ?_
  · obtain rfl : h = [] := List.length_eq_zero_iff.1 (by omega)
    have hT0 : AS w g (k + 1) cap us l x B u := hT
    obtain ⟨x0, x1, x2, l0, l1, l2⟩ := hT0.cs
    obtain ⟨r0, r1, r2, rf⟩ := last_r hT0.own Hk.out
    go_simp
    exact hK _ hT
  simp only [Act.put, List.setIfInBounds_toArray, List.set_cons_zero, List.set_cons_succ]
  refine gF_step (by rfl) (fun h u K hL hT hK => ?_) ?_
  · go_simp
    exact hK _ hT
  simp only [Act.put, List.setIfInBounds_toArray, List.set_cons_zero, List.set_cons_succ]
  refine gF_step (by rfl) (fun h u K hL hT hK => ?_) ?_
  · go_simp
    exact hK _ hT
  simp only [Act.put, List.setIfInBounds_toArray, List.set_cons_zero, List.set_cons_succ]
  refine gF_step (by rfl) (fun h u K hL hT hK => ?_) ?_
  · go_simp
    exact hK _ hT
  simp only [Act.put, List.setIfInBounds_toArray, List.set_cons_zero, List.set_cons_succ]
  refine gE_step (v := undef) (by rfl) (fun u K hT hK => ?_) ?_
  · have hT0 : AS w g (k + 1) cap us l x B u := hT
    obtain ⟨r0, r1, r2, rf⟩ := last_r hT0.own Hk.out
    have c3 := rf (k * 3 + 1)
    have hfin := OwnR.setC (l.c + x.c) hT0.own (by rw [Hk.out])
    rw [← Hk.out] at hfin
    have hbl := hT0.below.setCell (p := ⟨g, k * 3 + 1, none⟩) (show w.heap.size ≤ g by have := (hT0.own.own g rfl).1; omega) (.int .i64 (l.c + x.c))
    go_simp
    exact hK _ ⟨hfin, hbl⟩
  simp only [Act.put, List.setIfInBounds_toArray, List.set_cons_zero, List.set_cons_succ]
  refine g_nil (fun w4 hT4 => ?_)
  obtain ⟨h41, h42⟩ := hT4
  have HP : Hid (AddP w (us ++ [l]) x (.returned (Value.slice (some ⟨g, 0, none⟩) (k + 1) cap)) w4) := hide ⟨_, rfl, by rw [join_last hf]; exact Dl.row_down h41 (by omega), h42⟩
  clear h41 h42 HA hf
  go_wp2
  go_ret
  exact HP.out
set_option maxHeartbeats 1600000 in
theorem add_B (w : World) (a : Option Addr) (n c : Nat) (us : List Tok) (l x : Tok) (h : IsR w a n c (us ++ [l])) (hbig : n ≤ 1000000) (hf : fuse l x = some ⟨l.f, l.c, l.d ++ x.d⟩) (h1 : x.c = 0) (h2 : l.c = 0) (hd : l.d.length + x.d.length ≤ 1000000) :
    Calls Tryd.prog 58 #[.slice a n c, .agg #[.int .i64 x.f, .int .i64 x.c, .string (strN x.d)]] w (AddP w (us ++ [l]) x) := by
  have hn : n = us.length + 1 := by rw [← h.1]; simp
  obtain ⟨k, hk⟩ : ∃ k, k = us.length := ⟨_, rfl⟩
  have Hk := hide hk
  rw [← hk] at hn
  subst hn
  have HE := hide (heap_2b w (.cells #[.int .i64 x.f, .int .i64 x.c, .string (strN x.d)] 131) (.cells #[] 131))
  have HS := hide (heap_2a w (.cells #[.int .i64 x.f, .int .i64 x.c, .string (strN x.d)] 131) (.cells #[] 131))
  have HB := hide (((Below.refl w.heap.size w).alloc (Nat.le_refl _) (.cells #[.int .i64 x.f, .int .i64 x.c, .string (strN x.d)] 131)).alloc (by simp) (.cells #[] 131))
  have HI := hide ((h.below (below_new w (.cells #[.int .i64 x.f, .int .i64 x.c, .string (strN x.d)] 131))).below (below_new _ (.cells #[] 131)))
  have i0 : (0 : Int) < (k : Int) + 1 := by omega
  have i2 : (k : Int) < (k : Int) + 1 := by omega
  have hwk : IntKind.i64.wrap (k : Int) = (k : Int) := IntWalk.i64_in _ (by omega)
  clear hk h
  have hsz : ¬ (9223372036854775807 < (strN l.d).size + (strN x.d).size) := by rw [strN_size, strN_size]; omega
  have d1 : decide ((0 : Int) < x.c) = false := by simp; omega
  have d2 : (x.c == 0) = true := by simpa using h1
  have d3 : (l.c == 0) = true := by simpa using h2
  clear h1 h2
  go_enter Tryd.func58, Tryd.ntmps58
  go_wp2_with (refine wpList_append_copy rfl _ _ rfl (w.heap.size + 1) (w.heap.size + 1) a (k + 1) c (us ++ [l]) rfl rfl HE.out (Nat.le_refl _) HI.out (by omega) hbig ?_)
  intro v2 w2 HO2 HG2
  refine of_hid ?_
  obtain ⟨g, cap, hv2⟩ : ∃ g cap, v2 = .slice (some ⟨g, 0, none⟩) (k + 1) cap := by
    rcases HO2.out.form with ⟨_, h0⟩ | ⟨g, cap, h1, _⟩
    · exact absurd h0 (by simp)
    · exact ⟨g, cap, by rw [h1, Hk.out]; simp⟩
  subst hv2
  have HS2 := hide (keepG HG2.out (by omega) HS.out)
  have HB2 := hide (belowG HB.out HG2.out (by omega) HB.out.size)
  clear HE HS HB HI HG2
  obtain ⟨r0, r1, r2, rf⟩ := last_r HO2.out Hk.out
  have hrg : w2.rangeAt g (k * 3) [.int .i64 l.f, .int .i64 l.c, .string (strN l.d)] := fun j v hv => by
    match j, hv with
    | 0, hv => simp at hv; subst hv; exact r0
    | 1, hv => simp at hv; subst hv; exact r1
    | 2, hv => simp at hv; subst hv; exact r2
  clear r0 r1 r2 rf
  go_wp2_with (first
    | (refine wpList_load_part rfl 131 _ rfl g (k * 3) [.int .i64 l.f, .int .i64 l.c, .string (strN l.d)] rfl hrg _ Tryd.underlying131 rfl (by kernel_rfl) ?_)
    | (refine wpList_store_all rfl 131 _ _ rfl w2.heap.size #[.int .i64 l.f, .int .i64 l.c, .string (strN l.d)] _ 131 rfl rfl (heap_last _ _) rfl (by kernel_rfl) (all_oneCell_toArray (by intro v hv; simp only [List.mem_cons, List.not_mem_nil, or_false] at hv; rcases hv with rfl | rfl | rfl <;> rfl)) ?_))
  intro w3 H3 HG3
  refine of_hid ?_
  have hb3 : Below w2.heap.size w2 w3 := belowG (below_new w2 (.cells #[.int .i64 0, .int .i64 0, .string ByteArray.empty] 131)) HG3.out (Nat.le_refl _) (by simp)
  have HA : Hid (AS w g (k + 1) cap us l x w2.heap.size w3) := hide ⟨HO2.out.below hb3, below_blk hb3 (heap_lt HS2.out) HS2.out, H3.out, keepB hb3 (Nat.le_refl _) HB2.out⟩
  clear hb3 H3 HG3 HO2 HS2 HB2 hrg
  generalize w2.heap.size = B at *
  obtain ⟨x0, x1, x2, l0, l1, l2⟩ := HA.out.cs
  go_wp2_with fail
  clear x0 x1 x2 l0 l1 l2
  refine wp_region_h (WT w g (k + 1) cap us l x ⟨l.f, l.c, l.d ++ x.d⟩ B)
    [some (some (Value.slice (some ⟨g, 0, none⟩) (k + 1) cap)), some (some (Value.slice (some ⟨g, 0, none⟩) (k + 1) cap)), some (some (.int .i64 ((k : Int) + 1))), some (some (.int .i64 (k : Int))), some (some (.pointer (some ⟨g, k * 3, none⟩))), some (some (.pointer (some ⟨g, k * 3 + 2, none⟩))), some (some (.string (strN l.d))), some (some (.pointer (some ⟨w.heap.size, 2, none⟩))), some (some (.string (strN x.d))), some (some (.string (strN l.d ++ strN x.d))), some (some (.pointer (some ⟨g, k * 3, none⟩))), some (some (.pointer (some ⟨g, k * 3 + 2, none⟩))), none]
    [1, 1, 1, 1, 1, 1, 0, 1, 0, 1, 1, 1, 0] (by kernel_rfl) (by kernel_rfl) [12] [12] rfl rfl (by kernel_rfl) (by kernel_rfl) (HA.out.up (Below.refl _ _).drew) ?_
  refine gF_step (by rfl) (fun h u K hL hT hK => ?_) ?_
  · go_simp
    exact hK _ hT
  simp only [Act.put, List.setIfInBounds_toArray, List.set_cons_zero, List.set_cons_succ]
  refine gF_step (by rfl) (fun h u K hL hT hK => ?_) ?_
  · go_simp
    exact hK _ hT
  simp only [Act.put, List.setIfInBounds_toArray, List.set_cons_zero, List.set_cons_succ]
  refine gF_step (by rfl) (fun h u K hL hT hK => ?_) ?_
  · go_simp
    exact hK _ hT
  simp only [Act.put, List.setIfInBounds_toArray, List.set_cons_zero, List.set_cons_succ]
  refine gF_step (by rfl) (fun h u K hL hT hK => ?_) ?_
  · go_simp
    exact hK _ hT
  simp only [Act.put, List.setIfInBounds_toArray, List.set_cons_zero, List.set_cons_succ]
  refine gF_step (by rfl) (fun h u K hL hT hK => ?_) ?_
  · go_simp
    exact hK _ hT
  simp only [Act.put, List.setIfInBounds_toArray, List.set_cons_zero, List.set_cons_succ]
  refine gF_step (by rfl) (fun h u K hL hT hK => ?_) ?_
  · go_simp
    exact hK _ hT
  simp only [Act.put, List.setIfInBounds_toArray, List.set_cons_zero, List.set_cons_succ]
  refine gF_step (by rfl) (fun h u K hL hT hK => ?_) ?_
  · obtain rfl : h = [] := List.length_eq_zero_iff.1 (by omega)
    have hT0 : AS w g (k + 1) cap us l x B u := hT
    obtain ⟨x0, x1, x2, l0, l1, l2⟩ := hT0.cs
    obtain ⟨r0, r1, r2, rf⟩ := last_r hT0.own Hk.out
    go_simp
    exact hK _ hT
  simp only [Act.put, List.setIfInBounds_toArray, List.set_cons_zero, List.set_cons_succ]
  refine gF_step (by rfl) (fun h u K hL hT hK => ?_) ?_
  · go_simp
    exact hK _ hT
  simp only [Act.put, List.setIfInBounds_toArray, List.set_cons_zero, List.set_cons_succ]
  refine gF_step (by rfl) (fun h u K hL hT hK => ?_) ?_
  · obtain rfl : h = [] := List.length_eq_zero_iff.1 (by omega)
    have hT0 : AS w g (k + 1) cap us l x B u := hT
    obtain ⟨x0, x1, x2, l0, l1, l2⟩ := hT0.cs
    obtain ⟨r0, r1, r2, rf⟩ := last_r hT0.own Hk.out
    go_simp
    exact hK _ hT
  simp only [Act.put, List.setIfInBounds_toArray, List.set_cons_zero, List.set_cons_succ]
  refine gF_step (by rfl) (fun h u K hL hT hK => ?_) ?_
  · go_simp
    exact hK _ hT
  simp only [Act.put, List.setIfInBounds_toArray, List.set_cons_zero, List.set_cons_succ]
  refine gF_step (by rfl) (fun h u K hL hT hK => ?_) ?_
  · go_simp
    exact hK _ hT
  simp only [Act.put, List.setIfInBounds_toArray, List.set_cons_zero, List.set_cons_succ]
  refine gF_step (by rfl) (fun h u K hL hT hK => ?_) ?_
  · go_simp
    exact hK _ hT
  simp only [Act.put, List.setIfInBounds_toArray, List.set_cons_zero, List.set_cons_succ]
  refine gE_step (v := undef) (by rfl) (fun u K hT hK => ?_) ?_
  · have hT0 : AS w g (k + 1) cap us l x B u := hT
    obtain ⟨r0, r1, r2, rf⟩ := last_r hT0.own Hk.out
    have c3 := rf (k * 3 + 2)
    have hfin := OwnR.setD (l.d ++ x.d) hT0.own (by rw [Hk.out])
    rw [← Hk.out] at hfin
    have hbl := hT0.below.setCell (p := ⟨g, k * 3 + 2, none⟩) (show w.heap.size ≤ g by have := (hT0.own.own g rfl).1; omega) (.string (strN l.d ++ strN x.d))
    rw [← strN_app] at hfin
    go_simp
    exact hK _ ⟨hfin, hbl⟩
  simp only [Act.put, List.setIfInBounds_toArray, List.set_cons_zero, List.set_cons_succ]
  refine g_nil (fun w4 hT4 => ?_)
  obtain ⟨h41, h42⟩ := hT4
  have HP : Hid (AddP w (us ++ [l]) x (.returned (Value.slice (some ⟨g, 0, none⟩) (k + 1) cap)) w4) := hide ⟨_, rfl, by rw [join_last hf]; exact Dl.row_down h41 (by omega), h42⟩
  clear h41 h42 HA hf
  go_wp2
  go_ret
  exact HP.out
set_option maxHeartbeats 1600000 in
theorem add_1 (w : World) (a : Option Addr) (n c : Nat) (us : List Tok) (l x : Tok) (h : IsR w a n c (us ++ [l])) (hbig : n ≤ 1000000) (hf : fuse l x = none) (h1 : 0 < x.c) (h2 : 0 < l.c) (h3 : l.f + l.c ≠ x.f) (hb1 : 0 ≤ l.f) (hb2 : l.f + l.c ≤ 5000) :
    Calls Tryd.prog 58 #[.slice a n c, .agg #[.int .i64 x.f, .int .i64 x.c, .string (strN x.d)]] w (AddP w (us ++ [l]) x) := by
  have hn : n = us.length + 1 := by rw [← h.1]; simp
  obtain ⟨k, hk⟩ : ∃ k, k = us.length := ⟨_, rfl⟩
  have Hk := hide hk
  rw [← hk] at hn
  subst hn
  have HE := hide (heap_2b w (.cells #[.int .i64 x.f, .int .i64 x.c, .string (strN x.d)] 131) (.cells #[] 131))
  have HS := hide (heap_2a w (.cells #[.int .i64 x.f, .int .i64 x.c, .string (strN x.d)] 131) (.cells #[] 131))
  have HB := hide (((Below.refl w.heap.size w).alloc (Nat.le_refl _) (.cells #[.int .i64 x.f, .int .i64 x.c, .string (strN x.d)] 131)).alloc (by simp) (.cells #[] 131))
  have HI := hide ((h.below (below_new w (.cells #[.int .i64 x.f, .int .i64 x.c, .string (strN x.d)] 131))).below (below_new _ (.cells #[] 131)))
  have i0 : (0 : Int) < (k : Int) + 1 := by omega
  have i2 : (k : Int) < (k : Int) + 1 := by omega
  have hwk : IntKind.i64.wrap (k : Int) = (k : Int) := IntWalk.i64_in _ (by omega)
  clear hk h
  have d1 : decide ((0 : Int) < x.c) = true := by simpa using h1
  have d2 : decide ((0 : Int) < l.c) = true := by simpa using h2
  have hw : IntKind.i64.wrap (l.f + l.c) = l.f + l.c := IntWalk.i64_in _ (by omega)
  have d3 : ((l.f + l.c) == x.f) = false := by simpa using h3
  have d4 : (x.c == 0) = false := by simp; omega
  go_enter Tryd.func58, Tryd.ntmps58
  go_wp2_with (refine wpList_append_copy rfl _ _ rfl (w.heap.size + 1) (w.heap.size + 1) a (k + 1) c (us ++ [l]) rfl rfl HE.out (Nat.le_refl _) HI.out (by omega) hbig ?_)
  intro v2 w2 HO2 HG2
  refine of_hid ?_
  obtain ⟨g, cap, hv2⟩ : ∃ g cap, v2 = .slice (some ⟨g, 0, none⟩) (k + 1) cap := by
    rcases HO2.out.form with ⟨_, h0⟩ | ⟨g, cap, h1, _⟩
    · exact absurd h0 (by simp)
    · exact ⟨g, cap, by rw [h1, Hk.out]; simp⟩
  subst hv2
  have HS2 := hide (keepG HG2.out (by omega) HS.out)
  have HB2 := hide (belowG HB.out HG2.out (by omega) HB.out.size)
  clear HE HS HB HI HG2
  obtain ⟨r0, r1, r2, rf⟩ := last_r HO2.out Hk.out
  have hrg : w2.rangeAt g (k * 3) [.int .i64 l.f, .int .i64 l.c, .string (strN l.d)] := fun j v hv => by
    match j, hv with
    | 0, hv => simp at hv; subst hv; exact r0
    | 1, hv => simp at hv; subst hv; exact r1
    | 2, hv => simp at hv; subst hv; exact r2
  clear r0 r1 r2 rf
  go_wp2_with (first
    | (refine wpList_load_part rfl 131 _ rfl g (k * 3) [.int .i64 l.f, .int .i64 l.c, .string (strN l.d)] rfl hrg _ Tryd.underlying131 rfl (by kernel_rfl) ?_)
    | (refine wpList_store_all rfl 131 _ _ rfl w2.heap.size #[.int .i64 l.f, .int .i64 l.c, .string (strN l.d)] _ 131 rfl rfl (heap_last _ _) rfl (by kernel_rfl) (all_oneCell_toArray (by intro v hv; simp only [List.mem_cons, List.not_mem_nil, or_false] at hv; rcases hv with rfl | rfl | rfl <;> rfl)) ?_))
  intro w3 H3 HG3
  refine of_hid ?_
  have hb3 : Below w2.heap.size w2 w3 := belowG (below_new w2 (.cells #[.int .i64 0, .int .i64 0, .string ByteArray.empty] 131)) HG3.out (Nat.le_refl _) (by simp)
  have HA : Hid (AS w g (k + 1) cap us l x w2.heap.size w3) := hide ⟨HO2.out.below hb3, below_blk hb3 (heap_lt HS2.out) HS2.out, H3.out, keepB hb3 (Nat.le_refl _) HB2.out⟩
  clear hb3 H3 HG3 HO2 HS2 HB2 hrg
  generalize w2.heap.size = B at *
  obtain ⟨x0, x1, x2, l0, l1, l2⟩ := HA.out.cs
  go_wp2_with (refine wpList_append_rt rfl _ _ rfl (Value.slice (some ⟨g, 0, none⟩) (k + 1) cap) (w.heap.size + 1) (us ++ [l]) w3.heap.size x 131 (0, 0) 1 rfl rfl (HA.out.own.below (below_new w3 (.cells #[.int .i64 x.f, .int .i64 x.c, .string (strN x.d)] 131))) (by have := heap_lt HA.out.cx; simp; omega) (heap_last _ _) (by simp; have := Hk.out; omega) ?_)
  intro v' w7 HO7 HG7
  refine of_hid ?_
  have hb7 := keepB (below_new w3 (.cells #[.int .i64 x.f, .int .i64 x.c, .string (strN x.d)] 131)) (Nat.le_refl _) HA.out.below
  have HP : Hid (AddP w (us ++ [l]) x (.returned v') w7) := hide ⟨v', rfl, by rw [join_new hf]; exact Dl.row_down HO7.out (by omega), hb7.grown HG7.out hb7.size (fun q hq => by have := (HA.out.own.own q hq).1; omega)⟩
  have hf : ∃ a n c, v' = .slice a n c := by
    rcases HO7.out.form with ⟨h, _⟩ | ⟨g, cap, h, _⟩
    · exact ⟨_, _, _, h⟩
    · exact ⟨_, _, _, h⟩
  obtain ⟨va, vn, vc, rfl⟩ := hf
  clear HO7 HG7 HA hb7 x0 x1 x2 l0 l1 l2
  go_wp2
  go_ret
  exact HP.out
set_option maxHeartbeats 1600000 in
theorem add_2 (w : World) (a : Option Addr) (n c : Nat) (us : List Tok) (l x : Tok) (h : IsR w a n c (us ++ [l])) (hbig : n ≤ 1000000) (hf : fuse l x = none) (h1 : 0 < x.c) (h2 : l.c = 0) :
    Calls Tryd.prog 58 #[.slice a n c, .agg #[.int .i64 x.f, .int .i64 x.c, .string (strN x.d)]] w (AddP w (us ++ [l]) x) := by
  have hn : n = us.length + 1 := by rw [← h.1]; simp
  obtain ⟨k, hk⟩ : ∃ k, k = us.length := ⟨_, rfl⟩
  have Hk := hide hk
  rw [← hk] at hn
  subst hn
  have HE := hide (heap_2b w (.cells #[.int .i64 x.f, .int .i64 x.c, .string (strN x.d)] 131) (.cells #[] 131))
  have HS := hide (heap_2a w (.cells #[.int .i64 x.f, .int .i64 x.c, .string (strN x.d)] 131) (.cells #[] 131))
  have HB := hide (((Below.refl w.heap.size w).alloc (Nat.le_refl _) (.cells #[.int .i64 x.f, .int .i64 x.c, .string (strN x.d)] 131)).alloc (by simp) (.cells #[] 131))
  have HI := hide ((h.below (below_new w (.cells #[.int .i64 x.f, .int .i64 x.c, .string (strN x.d)] 131))).below (below_new _ (.cells #[] 131)))
  have i0 : (0 : Int) < (k : Int) + 1 := by omega
  have i2 : (k : Int) < (k : Int) + 1 := by omega
  have hwk : IntKind.i64.wrap (k : Int) = (k : Int) := IntWalk.i64_in _ (by omega)
  clear hk h
  have d1 : decide ((0 : Int) < x.c) = true := by simpa using h1
  have d2 : decide ((0 : Int) < l.c) = false := by simp; omega
  have d4 : (x.c == 0) = false := by simp; omega
  clear h2
  go_enter Tryd.func58, Tryd.ntmps58
  go_wp2_with (refine wpList_append_copy rfl _ _ rfl (w.heap.size + 1) (w.heap.size + 1) a (k + 1) c (us ++ [l]) rfl rfl HE.out (Nat.le_refl _) HI.out (by omega) hbig ?_)
  intro v2 w2 HO2 HG2
  refine of_hid ?_
  obtain ⟨g, cap, hv2⟩ : ∃ g cap, v2 = .slice (some ⟨g, 0, none⟩) (k + 1) cap := by
    rcases HO2.out.form with ⟨_, h0⟩ | ⟨g, cap, h1, _⟩
    · exact absurd h0 (by simp)
    · exact ⟨g, cap, by rw [h1, Hk.out]; simp⟩
  subst hv2
  have HS2 := hide (keepG HG2.out (by omega) HS.out)
  have HB2 := hide (belowG HB.out HG2.out (by omega) HB.out.size)
  clear HE HS HB HI HG2
  obtain ⟨r0, r1, r2, rf⟩ := last_r HO2.out Hk.out
  have hrg : w2.rangeAt g (k * 3) [.int .i64 l.f, .int .i64 l.c, .string (strN l.d)] := fun j v hv => by
    match j, hv with
    | 0, hv => simp at hv; subst hv; exact r0
    | 1, hv => simp at hv; subst hv; exact r1
    | 2, hv => simp at hv; subst hv; exact r2
  clear r0 r1 r2 rf
  go_wp2_with (first
    | (refine wpList_load_part rfl 131 _ rfl g (k * 3) [.int .i64 l.f, .int .i64 l.c, .string (strN l.d)] rfl hrg _ Tryd.underlying131 rfl (by kernel_rfl) ?_)
    | (refine wpList_store_all rfl 131 _ _ rfl w2.heap.size #[.int .i64 l.f, .int .i64 l.c, .string (strN l.d)] _ 131 rfl rfl (heap_last _ _) rfl (by kernel_rfl) (all_oneCell_toArray (by intro v hv; simp only [List.mem_cons, List.not_mem_nil, or_false] at hv; rcases hv with rfl | rfl | rfl <;> rfl)) ?_))
  intro w3 H3 HG3
  refine of_hid ?_
  have hb3 : Below w2.heap.size w2 w3 := belowG (below_new w2 (.cells #[.int .i64 0, .int .i64 0, .string ByteArray.empty] 131)) HG3.out (Nat.le_refl _) (by simp)
  have HA : Hid (AS w g (k + 1) cap us l x w2.heap.size w3) := hide ⟨HO2.out.below hb3, below_blk hb3 (heap_lt HS2.out) HS2.out, H3.out, keepB hb3 (Nat.le_refl _) HB2.out⟩
  clear hb3 H3 HG3 HO2 HS2 HB2 hrg
  generalize w2.heap.size = B at *
  obtain ⟨x0, x1, x2, l0, l1, l2⟩ := HA.out.cs
  go_wp2_with (refine wpList_append_rt rfl _ _ rfl (Value.slice (some ⟨g, 0, none⟩) (k + 1) cap) (w.heap.size + 1) (us ++ [l]) w3.heap.size x 131 (0, 0) 1 rfl rfl (HA.out.own.below (below_new w3 (.cells #[.int .i64 x.f, .int .i64 x.c, .string (strN x.d)] 131))) (by have := heap_lt HA.out.cx; simp; omega) (heap_last _ _) (by simp; have := Hk.out; omega) ?_)
  intro v' w7 HO7 HG7
  refine of_hid ?_
  have hb7 := keepB (below_new w3 (.cells #[.int .i64 x.f, .int .i64 x.c, .string (strN x.d)] 131)) (Nat.le_refl _) HA.out.below
  have HP : Hid (AddP w (us ++ [l]) x (.returned v') w7) := hide ⟨v', rfl, by rw [join_new hf]; exact Dl.row_down HO7.out (by omega), hb7.grown HG7.out hb7.size (fun q hq => by have := (HA.out.own.own q hq).1; omega)⟩
  have hf : ∃ a n c, v' = .slice a n c := by
    rcases HO7.out.form with ⟨h, _⟩ | ⟨g, cap, h, _⟩
    · exact ⟨_, _, _, h⟩
    · exact ⟨_, _, _, h⟩
  obtain ⟨va, vn, vc, rfl⟩ := hf
  clear HO7 HG7 HA hb7 x0 x1 x2 l0 l1 l2
  go_wp2
  go_ret
  exact HP.out
set_option maxHeartbeats 1600000 in
theorem add_3 (w : World) (a : Option Addr) (n c : Nat) (us : List Tok) (l x : Tok) (h : IsR w a n c (us ++ [l])) (hbig : n ≤ 1000000) (hf : fuse l x = none) (h1 : x.c = 0) (h2 : 0 < l.c) :
    Calls Tryd.prog 58 #[.slice a n c, .agg #[.int .i64 x.f, .int .i64 x.c, .string (strN x.d)]] w (AddP w (us ++ [l]) x) := by
  have hn : n = us.length + 1 := by rw [← h.1]; simp
  obtain ⟨k, hk⟩ : ∃ k, k = us.length := ⟨_, rfl⟩
  have Hk := hide hk
  rw [← hk] at hn
  subst hn
  have HE := hide (heap_2b w (.cells #[.int .i64 x.f, .int .i64 x.c, .string (strN x.d)] 131) (.cells #[] 131))
  have HS := hide (heap_2a w (.cells #[.int .i64 x.f, .int .i64 x.c, .string (strN x.d)] 131) (.cells #[] 131))
  have HB := hide (((Below.refl w.heap.size w).alloc (Nat.le_refl _) (.cells #[.int .i64 x.f, .int .i64 x.c, .string (strN x.d)] 131)).alloc (by simp) (.cells #[] 131))
  have HI := hide ((h.below (below_new w (.cells #[.int .i64 x.f, .int .i64 x.c, .string (strN x.d)] 131))).below (below_new _ (.cells #[] 131)))
  have i0 : (0 : Int) < (k : Int) + 1 := by omega
  have i2 : (k : Int) < (k : Int) + 1 := by omega
  have hwk : IntKind.i64.wrap (k : Int) = (k : Int) := IntWalk.i64_in _ (by omega)
  clear hk h
  have d1 : decide ((0 : Int) < x.c) = false := by simp; omega
  have d2 : (x.c == 0) = true := by simpa using h1
  have d4 : (l.c == 0) = false := by simp; omega
  clear h1
  go_enter Tryd.func58, Tryd.ntmps58
  go_wp2_with (refine wpList_append_copy rfl _ _ rfl (w.heap.size + 1) (w.heap.size + 1) a (k + 1) c (us ++ [l]) rfl rfl HE.out (Nat.le_refl _) HI.out (by omega) hbig ?_)
  intro v2 w2 HO2 HG2
  refine of_hid ?_
  obtain ⟨g, cap, hv2⟩ : ∃ g cap, v2 = .slice (some ⟨g, 0, none⟩) (k + 1) cap := by
    rcases HO2.out.form with ⟨_, h0⟩ | ⟨g, cap, h1, _⟩
    · exact absurd h0 (by simp)
    · exact ⟨g, cap, by rw [h1, Hk.out]; simp⟩
  subst hv2
  have HS2 := hide (keepG HG2.out (by omega) HS.out)
  have HB2 := hide (belowG HB.out HG2.out (by omega) HB.out.size)
  clear HE HS HB HI HG2
  obtain ⟨r0, r1, r2, rf⟩ := last_r HO2.out Hk.out
  have hrg : w2.rangeAt g (k * 3) [.int .i64 l.f, .int .i64 l.c, .string (strN l.d)] := fun j v hv => by
    match j, hv with
    | 0, hv => simp at hv; subst hv; exact r0
    | 1, hv => simp at hv; subst hv; exact r1
    | 2, hv => simp at hv; subst hv; exact r2
  clear r0 r1 r2 rf
  go_wp2_with (first
    | (refine wpList_load_part rfl 131 _ rfl g (k * 3) [.int .i64 l.f, .int .i64 l.c, .string (strN l.d)] rfl hrg _ Tryd.underlying131 rfl (by kernel_rfl) ?_)
    | (refine wpList_store_all rfl 131 _ _ rfl w2.heap.size #[.int .i64 l.f, .int .i64 l.c, .string (strN l.d)] _ 131 rfl rfl (heap_last _ _) rfl (by kernel_rfl) (all_oneCell_toArray (by intro v hv; simp only [List.mem_cons, List.not_mem_nil, or_false] at hv; rcases hv with rfl | rfl | rfl <;> rfl)) ?_))
  intro w3 H3 HG3
  refine of_hid ?_
  have hb3 : Below w2.heap.size w2 w3 := belowG (below_new w2 (.cells #[.int .i64 0, .int .i64 0, .string ByteArray.empty] 131)) HG3.out (Nat.le_refl _) (by simp)
  have HA : Hid (AS w g (k + 1) cap us l x w2.heap.size w3) := hide ⟨HO2.out.below hb3, below_blk hb3 (heap_lt HS2.out) HS2.out, H3.out, keepB hb3 (Nat.le_refl _) HB2.out⟩
  clear hb3 H3 HG3 HO2 HS2 HB2 hrg
  generalize w2.heap.size = B at *
  obtain ⟨x0, x1, x2, l0, l1, l2⟩ := HA.out.cs
  go_wp2_with (refine wpList_append_rt rfl _ _ rfl (Value.slice (some ⟨g, 0, none⟩) (k + 1) cap) (w.heap.size + 1) (us ++ [l]) w3.heap.size x 131 (0, 0) 1 rfl rfl (HA.out.own.below (below_new w3 (.cells #[.int .i64 x.f, .int .i64 x.c, .string (strN x.d)] 131))) (by have := heap_lt HA.out.cx; simp; omega) (heap_last _ _) (by simp; have := Hk.out; omega) ?_)
  intro v' w7 HO7 HG7
  refine of_hid ?_
  have hb7 := keepB (below_new w3 (.cells #[.int .i64 x.f, .int .i64 x.c, .string (strN x.d)] 131)) (Nat.le_refl _) HA.out.below
  have HP : Hid (AddP w (us ++ [l]) x (.returned v') w7) := hide ⟨v', rfl, by rw [join_new hf]; exact Dl.row_down HO7.out (by omega), hb7.grown HG7.out hb7.size (fun q hq => by have := (HA.out.own.own q hq).1; omega)⟩
  have hf : ∃ a n c, v' = .slice a n c := by
    rcases HO7.out.form with ⟨h, _⟩ | ⟨g, cap, h, _⟩
    · exact ⟨_, _, _, h⟩
    · exact ⟨_, _, _, h⟩
  obtain ⟨va, vn, vc, rfl⟩ := hf
  clear HO7 HG7 HA hb7 x0 x1 x2 l0 l1 l2
  go_wp2
  go_ret
  exact HP.out
theorem add_c (w : World) (a : Option Addr) (n c : Nat) (ts : List Tok) (x : Tok) (h : IsR w a n c ts) (hv : ts = [] → a = none ∧ c = 0) (hbig : n ≤ 1000000) (hw : ∀ t ∈ ts, t.wf) (hx : x.wf) (hd : ∀ t ∈ ts, t.d.length + x.d.length ≤ 1000000) :
    Calls Tryd.prog 58 #[.slice a n c, .agg #[.int .i64 x.f, .int .i64 x.c, .string (strN x.d)]] w (AddP w ts x) := by
  rcases List.eq_nil_or_concat ts with rfl | ⟨us, l, rfl⟩
  · obtain ⟨rfl, rfl⟩ := hv rfl
    obtain rfl : n = 0 := h.1.symm
    exact add_0 w x
  · rw [List.concat_eq_append] at *
    have hl := hw l (by simp)
    have hfr := fuse_ref hl hx
    have lc : 0 ≤ l.c ∧ (0 < l.c → 0 ≤ l.f ∧ l.f + l.c ≤ 4096) := by
      rcases hl.2 with h1 | ⟨h1, h2, h3, h4⟩
      · simp only [Tok.isB, decide_eq_true_eq] at h1; omega
      · omega
    have xc : 0 ≤ x.c ∧ (0 < x.c → 0 ≤ x.f ∧ x.f + x.c ≤ 4096) := by
      rcases hx.2 with h1 | ⟨h1, h2, h3, h4⟩
      · simp only [Tok.isB, decide_eq_true_eq] at h1; omega
      · omega
    by_cases h1 : 0 < x.c
    · by_cases h2 : 0 < l.c
      · by_cases h3 : l.f + l.c = x.f
        · rw [if_pos ⟨h1, h2, h3⟩] at hfr
          exact add_K w a n c us l x h hbig hfr h1 h2 h3 (lc.2 h2).1 (by have := (xc.2 h1).2; omega)
        · rw [if_neg (by omega), if_neg (by omega)] at hfr
          exact add_1 w a n c us l x h hbig hfr h1 h2 h3 (lc.2 h2).1 (by have := (lc.2 h2).2; omega)
      · rw [if_neg (by omega), if_neg (by omega)] at hfr
        exact add_2 w a n c us l x h hbig hfr h1 (by omega)
    · by_cases h2 : 0 < l.c
      · rw [if_neg (by omega), if_neg (by omega)] at hfr
        exact add_3 w a n c us l x h hbig hfr (by omega) h2
      · rw [if_neg (by omega), if_pos (by omega)] at hfr
        exact add_B w a n c us l x h hbig hfr (by omega) (by omega) (hd l (by simp))
end Go.Proofs.YtkinpbhbgeiflaaDoor.Dq
/- The reference's Make. -/
namespace Go.Proofs.YtkinpbhbgeiflaaDoor.Dr
set_option linter.unusedVariables false
set_option linter.unusedSimpArgs false
set_option maxRecDepth 100000
open Go.ChangeShapes Go.WideShapes Go.ChangeAt Go.RowKit
open Go.Proofs.YtkinpbhbgeiflaaDoor.Wu Go.Proofs.YtkinpbhbgeiflaaDoor.Sm Go.Proofs.YtkinpbhbgeiflaaDoor.Sh Go.Proofs.YtkinpbhbgeiflaaDoor.Ba Go.Proofs.YtkinpbhbgeiflaaDoor.Bp Go.Proofs.YtkinpbhbgeiflaaDoor.Bq Go.Proofs.YtkinpbhbgeiflaaDoor.Bs Go.Proofs.YtkinpbhbgeiflaaDoor.Rk Go.Proofs.YtkinpbhbgeiflaaDoor.Rw Go.Proofs.YtkinpbhbgeiflaaDoor.Ka Go.Proofs.YtkinpbhbgeiflaaDoor.Kb Go.Proofs.YtkinpbhbgeiflaaDoor.Kc Go.Proofs.YtkinpbhbgeiflaaDoor.Kd Go.Proofs.YtkinpbhbgeiflaaDoor.Ke Go.Proofs.YtkinpbhbgeiflaaDoor.Kh Go.Proofs.YtkinpbhbgeiflaaDoor.Kk Go.Proofs.YtkinpbhbgeiflaaDoor.Kl Go.Proofs.YtkinpbhbgeiflaaDoor.Ko Go.Proofs.YtkinpbhbgeiflaaDoor.Kq Go.Proofs.YtkinpbhbgeiflaaDoor.Kt Go.Proofs.YtkinpbhbgeiflaaDoor.Kx Go.Proofs.YtkinpbhbgeiflaaDoor.Da Go.Proofs.YtkinpbhbgeiflaaDoor.Db Go.Proofs.YtkinpbhbgeiflaaDoor.Dk Go.Proofs.YtkinpbhbgeiflaaDoor.Dl Go.Proofs.YtkinpbhbgeiflaaDoor.Do Go.Proofs.YtkinpbhbgeiflaaDoor.Dp Go.Proofs.YtkinpbhbgeiflaaDoor.Dq
open Go.Proofs.YtkinpbhbgeiflaaDoor.Su (cutL Cnt)
attribute [local go_sem] kUpon_value kUpon_skip kUpon_enter
def MakeRP (w : World) (fin : List Tok) (e : Ending) (w' : World) : Prop := ∃ v, e = .returned (.tuple #[v, .int .i64 0]) ∧ OwnR w' w.heap.size v fin ∧ Below w.heap.size w w'
def fzOf : Option Nat → Int
  | none => -1
  | some i => (i : Int)
theorem rfind_det {w w' : World} {s k l : Nat} {bs : List Blk} {P : List Nat} {e : Ending} (h : RFind w (plcs s l bs bs.length) P.length ⟨wkN P, cutL k (sha P)⟩ e w') : e = .returned (.int .i64 (fzOf (fdOf s k l bs P))) ∧ Below w.heap.size w w' := by
  obtain ⟨⟨z, he, h⟩, hb⟩ := h
  refine ⟨?_, hb⟩
  rw [he]
  unfold fdOf
  rcases h with ⟨rfl, h⟩ | ⟨p, rfl, h⟩ <;> rw [h] <;> rfl
theorem slice_str (D : List Nat) (i n : Nat) (h : i + n ≤ D.length) (x : Int) (hx : x = ((i + n : Nat) : Int)) (u : World) : Sem.run Tryd.prog (Instr.slice 9 (.string (strN D)) (some (.int .i64 (i : Int))) (some (.int .i64 x)) none) u = .ok (.string (strN ((D.drop i).take n))) u := by
  subst hx
  rw [run_slice_string u 9 (strN D) .i64 .i64 _ _ Tryd.underlying9 (by omega) (by omega) (by rw [strN_size]; omega)]
  rw [Int.toNat_natCast, Int.toNat_natCast, strN_mid]
set_option maxHeartbeats 1600000 in
theorem refmake_bad (w : World) (sz cut len : Int) (a : Option Addr) (m c : Nat) (bs : List Blk) (D : List Nat) (HC : ∀ u : World, Below w.heap.size w u → Calls Tryd.prog 56 #[sigV sz cut len (.slice a m c)] u fun e w' => e = .returned (.int .i64 (checkE sz cut len bs)) ∧ Below u.heap.size u w') (hch : checkE sz cut len bs ≠ 0) :
    Calls Tryd.prog 24 #[sigV sz cut len (.slice a m c), .string (strN D)] w fun e w' => e = .returned (.tuple #[.slice none 0 0, .int .i64 (checkE sz cut len bs)]) ∧ Below w.heap.size w w' := by
  have HC := hide HC
  obtain ⟨z, hz⟩ : ∃ z, z = checkE sz cut len bs := ⟨_, rfl⟩
  rw [← hz] at hch HC ⊢
  have e1 : (z != 0) = true := by simpa using hch
  clear hz hch
  unfold sigV at HC ⊢
  have HB := hide (below_new w (.cells #[.int .i64 sz, .int .i64 cut, .int .i64 len, .slice a m c] 61))
  go_enter Tryd.func24, Tryd.ntmps24
  go_wp2_with fail
  (with_reducible refine Calls.mono (HC.out _ HB.out) ?_)
  rintro e w2 ⟨rfl, hb2⟩
  have HB2 := hide (keepB hb2 (Nat.le_refl _) HB.out)
  clear hb2 HB HC
  go_wp2
  go_ret2
  exact ⟨rfl, HB2.out⟩
set_option maxHeartbeats 6400000 in
theorem refmake_c (w : World) (s k l m c : Nat) (a : Option Addr) (bs : List Blk) (D : List Nat) (hb : IsBks .i64 w (.slice a m c) bs) (hml : bs.length = m) (hch : checkE s k l bs = 0) (h8 : All8 D) (hD : D.length ≤ 4096)
    (HC : ∀ u : World, Below w.heap.size w u → Calls Tryd.prog 56 #[sigV s k l (.slice a m c)] u fun e w' => e = .returned (.int .i64 (checkE s k l bs)) ∧ Below u.heap.size u w') :
    Calls Tryd.prog 24 #[sigV s k l (.slice a m c), .string (strN D)] w (MakeRP w (mkA (fdOf s k l bs) s D)) := by
  have hf : fitsE s k l = 0 := by
    unfold checkE at hch
    split at hch
    · exact hch
    · rename_i h; simpa using h
  have hz := fitsE_zero hf
  have hmn : (m : Int) = cntZ l s := by
    unfold checkE at hch
    rw [if_neg (by simpa using hf)] at hch
    split at hch
    · cases hch
    · rename_i h; rw [← hml]; omega
  have h4 : m ≤ 4096 := by omega
  have hs1 : 1 ≤ s := by omega
  have hs2 : s ≤ 4096 := by omega
  have hk : k ≤ 32 := by omega
  have hin : ∀ i, i < m → i * s ≤ l := fun i hi => by
    have := Kf.cnt_lt (m := l) (s := s) (i := i) (by omega) (by omega) (by omega) (by rw [← hmn]; omega)
    have e0 : (i : Int) * (s : Int) = ((i * s : Nat) : Int) := by simp
    rw [e0] at this
    omega
  have HC := hide HC
  rw [hch] at HC
  have HFi := hide (fun (u : World) (hu : Below w.heap.size w u) (P : List Nat) (hP8 : All8 P) (hPl : P.length ≤ 4096) => (by
    refine (reffind_c u s k l m c a bs P (hb.below hu) hml hP8 hPl hk hs1 hs2 (by omega) h4 hin).mono ?_
    intro e u' he
    rw [← hml] at he
    exact rfind_det he : Calls Tryd.prog 57 #[sigV s k l (.slice a m c), .string (strN P)] u fun e u' => e = .returned (.int .i64 (fzOf (fdOf s k l bs P))) ∧ Below u.heap.size u u'))
  have HLt := hide (fun (P : List Nat) (i : Nat) (h : fdOf s k l bs P = some i) => (show i < 4096 by have := fdOf_lt h; omega))
  clear hf hz hmn hch hb hin hml
  unfold sigV at HC HFi ⊢
  have HS := hide (heap_last w (.cells #[.int .i64 (s : Int), .int .i64 (k : Int), .int .i64 (l : Int), .slice a m c] 61))
  have HB := hide (below_new w (.cells #[.int .i64 (s : Int), .int .i64 (k : Int), .int .i64 (l : Int), .slice a m c] 61))
  obtain ⟨fd, hfdE⟩ : ∃ fd, fd = fdOf s k l bs := ⟨_, rfl⟩
  rw [← hfdE] at HFi HLt ⊢
  clear hfdE
  have hsz := strN_size D
  have HSl := hide (fun (i n : Nat) (h : i + n ≤ D.length) (x : Int) (hx : x = ((i + n : Nat) : Int)) (u : World) => slice_str D i n h x hx u)
  obtain ⟨X, hX⟩ : ∃ X, X = strN D := ⟨_, rfl⟩
  rw [← hX] at hsz HSl ⊢
  clear hX
  obtain ⟨n, hn⟩ : ∃ n, n = D.length := ⟨_, rfl⟩
  rw [← hn] at hsz HSl hD
  have Hn := hide hn
  have H8 := hide h8
  clear hn h8
  go_enter Tryd.func24, Tryd.ntmps24
  go_wp2_with fail
  (with_reducible refine Calls.mono (HC.out _ HB.out) ?_)
  generalize (w.alloc (.cells #[.int .i64 (s : Int), .int .i64 (k : Int), .int .i64 (l : Int), .slice a m c] 61)) = w1 at *
  rintro e w2 ⟨rfl, hb2⟩
  have HS2 := hide (below_blk hb2 (heap_lt HS.out) HS.out)
  have HB2 := hide (keepB hb2 (Nat.le_refl _) HB.out)
  clear hb2 HC HS HB
  obtain ⟨c0, c1, c2, c3⟩ := Sig4.cells (T := 61) HS2.out
  go_wp2_with fail
  clear c0 c1 c2 c3
  go_loopw [7, 8] (fun x j wr => ∃ v ts at_ f, v = x ∧ j = .int .i64 ((at_ : Nat) : Int) ∧ at_ ≤ n ∧ Hid ((D.drop at_).length ≤ f ∧ mkT fd s f (D.drop at_) ts = mkA fd s D) ∧ OwnR wr w.heap.size v ts ∧ Hid (ts = [] → v = .slice none 0 0) ∧ Hid (∀ t ∈ ts, t.wf) ∧ Hid (∀ t ∈ ts, t.d.length ≤ at_) ∧ ts.length ≤ at_ ∧ wr.heap[w.heap.size]? = some (.cells #[.int .i64 (s : Int), .int .i64 (k : Int), .int .i64 (l : Int), .slice a m c] 61 (0, 0)) ∧ Below w.heap.size w wr) (fun _ j _ => n - (intOf j).toNat)
  case atStart => exact ⟨_, [], 0, D.length, rfl, rfl, Nat.zero_le _, hide ⟨by simp, by rw [List.drop_zero]; rfl⟩, OwnR.nil _ _, hide (fun _ => rfl), hide (fun t ht => by cases ht), hide (fun t ht => by cases ht), Nat.zero_le _, HS2.out, HB2.out⟩
  case round =>
    clear HS2 HB2
    obtain ⟨v, ts, p, f, rfl, rfl, hp, HM, hO, HNil, HWf, HDl, htl, hS, hB⟩ := hrel
    have HO := hide hO
    have HS := hide hS
    have HB := hide hB
    clear hO hS hB
    obtain ⟨va, vc, hv⟩ : ∃ va vc, v = .slice va ts.length vc := by
      obtain ⟨va, vc, h, _⟩ := HO.out.is
      exact ⟨va, vc, h⟩
    subst hv
    have HIs : Hid (∀ u : World, Below wr.heap.size wr u → IsR u va ts.length vc ts) := hide (fun u hu => by
      obtain ⟨va', vc', h, h2⟩ := HO.out.is
      injection h with e1 e2 e3
      rw [e1, e3]
      exact h2.below hu)
    have HNil2 : Hid (ts = [] → va = none ∧ vc = 0) := hide (fun h => by
      have h1 := HNil.out h
      injection h1 with e1 e2 e3
      exact ⟨e1, e3⟩)
    obtain ⟨tn, htn⟩ : ∃ tn, tn = ts.length := ⟨_, rfl⟩
    have Htn := hide htn
    rw [← htn] at HIs htl ⊢
    clear htn
    obtain ⟨c0, c1, c2, c3⟩ := Sig4.cells (T := 61) HS.out
    by_cases hlt : p < n
    · have d1 : decide ((p : Int) < (n : Int)) = true := by simpa using hlt
      have d1' : decide (p < n) = true := by simpa using hlt
      obtain ⟨R, hR⟩ : ∃ R, R = D.drop p := ⟨_, rfl⟩
      have HR := hide hR
      rw [← hR] at HM
      have hRl : R.length = n - p := by rw [hR, List.length_drop, Hn.out]
      have hRn : R ≠ [] := fun e => by rw [e] at hRl; simp at hRl; omega
      have HStep := hide (step_T hRn HM.out.1 hs1 HM.out.2)
      obtain ⟨q, hq⟩ : ∃ q, q = (R.take s).length := ⟨_, rfl⟩
      have hqv : q = min s (n - p) := by rw [hq, List.length_take, hRl]
      have hsl1 := hide (fun (x : Int) (hx : x = ((p + q : Nat) : Int)) (u : World) => HSl.out p q (by omega) x hx u)
      have hsl2 := fun u : World => HSl.out p 1 (by omega) ((p : Int) + 1) (by omega) u
      rw [← hR] at hsl1 hsl2
      have htq : R.take q = R.take s := by
        rw [hq, List.length_take]; exact Dg.take_min R s _ rfl
      rw [htq] at hsl1
      have HF := hide (fun (u : World) (hu : Below w.heap.size w u) => HFi.out u hu (R.take s) (all8_take (by rw [hR]; exact all8_drop H8.out p) s) (by omega))
      have HRok : Hid (All8 R) := hide (by rw [hR]; exact all8_drop H8.out p)
      obtain ⟨P, hP⟩ : ∃ P, P = R.take s := ⟨_, rfl⟩
      rw [← hP] at hsl1 HF HStep
      have HPe := hide hP
      have Hq := hide hq
      have hcase : (decide ((s : Int) < (n : Int) - (p : Int)) = true ∧ s = q) ∨ (decide ((s : Int) < (n : Int) - (p : Int)) = false ∧ n = p + q) := by
        by_cases h : s < n - p
        · exact .inl ⟨by simp; omega, by omega⟩
        · exact .inr ⟨by simp; omega, by omega⟩
      have hqb : q ≤ 4096 := by omega
      have hq0 : 1 ≤ q := by omega
      have hpq : p + q ≤ n := by omega
      have hRl' := hide hRl
      clear hR hq htq hP hRn hqv
      cases hfd : fd P with
      | none =>
        have HAdd : Hid (∀ (u : World), Below wr.heap.size wr u → Calls Tryd.prog 58 #[.slice va tn vc, .agg #[.int .i64 0, .int .i64 0, .string (strN (R.take 1))]] u (AddP u ts ⟨0, 0, R.take 1⟩)) := hide (fun u hu => add_c u va tn vc ts ⟨0, 0, R.take 1⟩ (HIs.out u hu) HNil2.out (by omega) HWf.out (wf_one HRok.out (fun e => by rw [e] at hRl; simp at hRl; omega)) (fun t ht => by have := HDl.out t ht; simp only [List.length_take]; omega))
        rw [hfd] at HF HStep
        have HF2 : Hid (∀ (u : World), Below w.heap.size w u → Calls Tryd.prog 57 #[.agg #[.int .i64 (s : Int), .int .i64 (k : Int), .int .i64 (l : Int), .slice a m c], .string (strN P)] u fun e u' => e = .returned (.int .i64 (-1 : Int)) ∧ Below u.heap.size u u') := hide (fun u hu => HF.out u hu)
        have hwfx : Tok.wf ⟨0, 0, R.take 1⟩ := wf_one HRok.out (fun e => by rw [e] at hRl; simp at hRl; omega)
        have HWx := hide hwfx
        clear hfd HF hwfx
        have hw1 : IntKind.i64.wrap ((p : Int) + (q : Int)) = (p : Int) + (q : Int) := IntWalk.i64_in _ (by omega)
        rcases hcase with ⟨d2, rfl⟩ | ⟨d2, hnq⟩
        · have hslx := fun u : World => hsl1.out ((p : Int) + (s : Int)) (by omega) u
          go_wp2_with fail
          refine wp_region_keep (fun u => Below wr.heap.size wr u) (by kernel_rfl) (by kernel_rfl) ((Below.refl _ _).drew) ?_
          repeat (first
            | (refine keep_step (v := ?_) (by rfl) (fun u K hS hK => ?_) ?_
               rotate_left
               · obtain ⟨c0, c1, c2, c3⟩ := Sig4.cells (T := 61) (below_blk hS (heap_lt HS.out) HS.out)
                 (go_simp; first
                   | (go_at_call 57; (with_reducible refine Calls.mono (HF2.out _ (keepB hS (Nat.le_refl _) HB.out)) ?_); rintro e u2 ⟨rfl, hu⟩; exact hK _ (keepB hu (Nat.le_refl _) hS))
                   | (with_reducible exact hK _ hS))
               simp only [Act.put, List.setIfInBounds_toArray, List.set_cons_zero, List.set_cons_succ]))
          refine keep_nil (fun w5 hS5 => ?_)
          have HB5 := hide hS5
          clear hS5 hslx c0 c1 c2 c3
          go_wp2_with fail
          (with_reducible refine Calls.mono (HAdd.out w5 HB5.out) ?_)
          rintro e w6 ⟨v', rfl, ho6, hb6⟩
          have HB6 := hide (keepB (keepB hb6 (Nat.le_refl _) HB5.out) (Nat.le_refl _) HB.out)
          have HS6 := hide (below_blk (keepB hb6 (Nat.le_refl _) HB5.out) (heap_lt HS.out) HS.out)
          have HO6 := hide (row_down ho6 (Nat.le_trans HB.out.size HB5.out.size))
          have hjn : joinT ts ⟨0, 0, R.take 1⟩ ≠ [] := fun e => by
            rcases List.eq_nil_or_concat ts with h0 | ⟨us, l, h0⟩
            · rw [h0] at e; simp [joinT] at e
            · rw [h0, List.concat_eq_append, joinT_snoc] at e
              split at e <;> simp at e
          have HJn := hide hjn
          clear hb6 ho6 HB5 HAdd HIs hjn
          go_wp2
          go_roundw
          case rel =>
            obtain ⟨f', hf1, hf2⟩ := HStep.out
            have h9 : True := trivial
            refine ⟨v', _, p + 1, f', rfl, by go_num, by omega, hide ⟨by rw [← List.drop_drop, ← HR.out]; exact hf1, by rw [← List.drop_drop, ← HR.out]; exact hf2⟩, HO6.out, hide (fun e => absurd e HJn.out), hide (joinT_wf HWf.out HWx.out), hide (fun t ht => ?_), ?_, HS6.out, HB6.out⟩
            · have h1 := joinT_dl (x := ⟨0, 0, R.take 1⟩) (q := p) (ts := ts) HDl.out t ht
              simp only [List.length_take] at h1; omega
            · have h1 := joinT_length ts ⟨0, 0, R.take 1⟩
              have := Htn.out
              omega
          case measure => simp [intOf]; omega
        · have hslx := fun u : World => hsl1.out (n : Int) (by omega) u
          have HNQ := hide hnq
          clear hnq
          go_wp2_with fail
          refine wp_region_keep (fun u => Below wr.heap.size wr u) (by kernel_rfl) (by kernel_rfl) ((Below.refl _ _).drew) ?_
          repeat (first
            | (refine keep_step (v := ?_) (by rfl) (fun u K hS hK => ?_) ?_
               rotate_left
               · obtain ⟨c0, c1, c2, c3⟩ := Sig4.cells (T := 61) (below_blk hS (heap_lt HS.out) HS.out)
                 (go_simp; first
                   | (go_at_call 57; (with_reducible refine Calls.mono (HF2.out _ (keepB hS (Nat.le_refl _) HB.out)) ?_); rintro e u2 ⟨rfl, hu⟩; exact hK _ (keepB hu (Nat.le_refl _) hS))
                   | (with_reducible exact hK _ hS))
               simp only [Act.put, List.setIfInBounds_toArray, List.set_cons_zero, List.set_cons_succ]))
          refine keep_nil (fun w5 hS5 => ?_)
          have HB5 := hide hS5
          clear hS5 hslx c0 c1 c2 c3
          go_wp2_with fail
          (with_reducible refine Calls.mono (HAdd.out w5 HB5.out) ?_)
          rintro e w6 ⟨v', rfl, ho6, hb6⟩
          have HB6 := hide (keepB (keepB hb6 (Nat.le_refl _) HB5.out) (Nat.le_refl _) HB.out)
          have HS6 := hide (below_blk (keepB hb6 (Nat.le_refl _) HB5.out) (heap_lt HS.out) HS.out)
          have HO6 := hide (row_down ho6 (Nat.le_trans HB.out.size HB5.out.size))
          have hjn : joinT ts ⟨0, 0, R.take 1⟩ ≠ [] := fun e => by
            rcases List.eq_nil_or_concat ts with h0 | ⟨us, l, h0⟩
            · rw [h0] at e; simp [joinT] at e
            · rw [h0, List.concat_eq_append, joinT_snoc] at e
              split at e <;> simp at e
          have HJn := hide hjn
          clear hb6 ho6 HB5 HAdd HIs hjn
          go_wp2
          go_roundw
          case rel =>
            obtain ⟨f', hf1, hf2⟩ := HStep.out
            have h9 : True := trivial
            refine ⟨v', _, p + 1, f', rfl, by go_num, by omega, hide ⟨by rw [← List.drop_drop, ← HR.out]; exact hf1, by rw [← List.drop_drop, ← HR.out]; exact hf2⟩, HO6.out, hide (fun e => absurd e HJn.out), hide (joinT_wf HWf.out HWx.out), hide (fun t ht => ?_), ?_, HS6.out, HB6.out⟩
            · have h1 := joinT_dl (x := ⟨0, 0, R.take 1⟩) (q := p) (ts := ts) HDl.out t ht
              simp only [List.length_take] at h1; omega
            · have h1 := joinT_length ts ⟨0, 0, R.take 1⟩
              have := Htn.out
              omega
          case measure => simp [intOf]; omega
      | some i =>
        have HAdd : Hid (∀ (u : World), Below wr.heap.size wr u → Calls Tryd.prog 58 #[.slice va tn vc, .agg #[.int .i64 (i : Int), .int .i64 1, .string (strN [])]] u (AddP u ts ⟨(i : Int), 1, []⟩)) := hide (fun u hu => add_c u va tn vc ts ⟨(i : Int), 1, []⟩ (HIs.out u hu) HNil2.out (by omega) HWf.out (wf_blk (HLt.out P i hfd)) (fun t ht => by have := HDl.out t ht; simp only [List.length_nil]; omega))
        rw [hfd] at HF HStep
        have HF2 : Hid (∀ (u : World), Below w.heap.size w u → Calls Tryd.prog 57 #[.agg #[.int .i64 (s : Int), .int .i64 (k : Int), .int .i64 (l : Int), .slice a m c], .string (strN P)] u fun e u' => e = .returned (.int .i64 (i : Int)) ∧ Below u.heap.size u u') := hide (fun u hu => HF.out u hu)
        have hwfx : Tok.wf ⟨(i : Int), 1, []⟩ := wf_blk (HLt.out P i hfd)
        have HWx := hide hwfx
        clear hfd HF hwfx
        have hw1 : IntKind.i64.wrap ((p : Int) + (q : Int)) = (p : Int) + (q : Int) := IntWalk.i64_in _ (by omega)
        have he0 : strN [] = ⟨#[]⟩ := rfl
        have hi0 : decide ((0 : Int) ≤ (i : Int)) = true := by simp
        rw [he0] at HAdd
        rcases hcase with ⟨d2, rfl⟩ | ⟨d2, hnq⟩
        · have hslx := fun u : World => hsl1.out ((p : Int) + (s : Int)) (by omega) u
          go_wp2_with fail
          refine wp_region_keep (fun u => Below wr.heap.size wr u) (by kernel_rfl) (by kernel_rfl) ((Below.refl _ _).drew) ?_
          repeat (first
            | (refine keep_step (v := ?_) (by rfl) (fun u K hS hK => ?_) ?_
               rotate_left
               · obtain ⟨c0, c1, c2, c3⟩ := Sig4.cells (T := 61) (below_blk hS (heap_lt HS.out) HS.out)
                 (go_simp; first
                   | (go_at_call 57; (with_reducible refine Calls.mono (HF2.out _ (keepB hS (Nat.le_refl _) HB.out)) ?_); rintro e u2 ⟨rfl, hu⟩; exact hK _ (keepB hu (Nat.le_refl _) hS))
                   | (with_reducible exact hK _ hS))
               simp only [Act.put, List.setIfInBounds_toArray, List.set_cons_zero, List.set_cons_succ]))
          refine keep_nil (fun w5 hS5 => ?_)
          have HB5 := hide hS5
          clear hS5 hslx c0 c1 c2 c3
          go_wp2_with fail
          (with_reducible refine Calls.mono (HAdd.out w5 HB5.out) ?_)
          rintro e w6 ⟨v', rfl, ho6, hb6⟩
          have HB6 := hide (keepB (keepB hb6 (Nat.le_refl _) HB5.out) (Nat.le_refl _) HB.out)
          have HS6 := hide (below_blk (keepB hb6 (Nat.le_refl _) HB5.out) (heap_lt HS.out) HS.out)
          have HO6 := hide (row_down ho6 (Nat.le_trans HB.out.size HB5.out.size))
          have hjn : joinT ts ⟨(i : Int), 1, []⟩ ≠ [] := fun e => by
            rcases List.eq_nil_or_concat ts with h0 | ⟨us, l, h0⟩
            · rw [h0] at e; simp [joinT] at e
            · rw [h0, List.concat_eq_append, joinT_snoc] at e
              split at e <;> simp at e
          have HJn := hide hjn
          clear hb6 ho6 HB5 HAdd HIs hjn
          go_wp2
          go_roundw
          case rel =>
            obtain ⟨f', hf1, hf2⟩ := HStep.out
            rw [show leftN s R (some i) = (P.length : Nat) from by rw [HPe.out]; rfl, show P.length = s from by rw [HPe.out]; exact Hq.out.symm] at hf1 hf2
            refine ⟨v', _, p + s, f', rfl, by go_num, by omega, hide ⟨by rw [← List.drop_drop, ← HR.out]; exact hf1, by rw [← List.drop_drop, ← HR.out]; exact hf2⟩, HO6.out, hide (fun e => absurd e HJn.out), hide (joinT_wf HWf.out HWx.out), hide (fun t ht => ?_), ?_, HS6.out, HB6.out⟩
            · have h1 := joinT_dl (x := ⟨(i : Int), 1, []⟩) (q := p) (ts := ts) HDl.out t ht
              simp only [List.length_nil] at h1; omega
            · have h1 := joinT_length ts ⟨(i : Int), 1, []⟩
              have := Htn.out
              omega
          case measure => simp [intOf]; omega
        · have hslx := fun u : World => hsl1.out (n : Int) (by omega) u
          have HNQ := hide hnq
          clear hnq
          go_wp2_with fail
          refine wp_region_keep (fun u => Below wr.heap.size wr u) (by kernel_rfl) (by kernel_rfl) ((Below.refl _ _).drew) ?_
          repeat (first
            | (refine keep_step (v := ?_) (by rfl) (fun u K hS hK => ?_) ?_
               rotate_left
               · obtain ⟨c0, c1, c2, c3⟩ := Sig4.cells (T := 61) (below_blk hS (heap_lt HS.out) HS.out)
                 (go_simp; first
                   | (go_at_call 57; (with_reducible refine Calls.mono (HF2.out _ (keepB hS (Nat.le_refl _) HB.out)) ?_); rintro e u2 ⟨rfl, hu⟩; exact hK _ (keepB hu (Nat.le_refl _) hS))
                   | (with_reducible exact hK _ hS))
               simp only [Act.put, List.setIfInBounds_toArray, List.set_cons_zero, List.set_cons_succ]))
          refine keep_nil (fun w5 hS5 => ?_)
          have HB5 := hide hS5
          clear hS5 hslx c0 c1 c2 c3
          go_wp2_with fail
          (with_reducible refine Calls.mono (HAdd.out w5 HB5.out) ?_)
          rintro e w6 ⟨v', rfl, ho6, hb6⟩
          have HB6 := hide (keepB (keepB hb6 (Nat.le_refl _) HB5.out) (Nat.le_refl _) HB.out)
          have HS6 := hide (below_blk (keepB hb6 (Nat.le_refl _) HB5.out) (heap_lt HS.out) HS.out)
          have HO6 := hide (row_down ho6 (Nat.le_trans HB.out.size HB5.out.size))
          have hjn : joinT ts ⟨(i : Int), 1, []⟩ ≠ [] := fun e => by
            rcases List.eq_nil_or_concat ts with h0 | ⟨us, l, h0⟩
            · rw [h0] at e; simp [joinT] at e
            · rw [h0, List.concat_eq_append, joinT_snoc] at e
              split at e <;> simp at e
          have HJn := hide hjn
          clear hb6 ho6 HB5 HAdd HIs hjn
          go_wp2
          go_roundw
          case rel =>
            obtain ⟨f', hf1, hf2⟩ := HStep.out
            rw [show leftN s R (some i) = (P.length : Nat) from by rw [HPe.out]; rfl, show P.length = q from by rw [HPe.out]; exact Hq.out.symm] at hf1 hf2
            have hnq := HNQ.out
            refine ⟨v', _, p + q, f', rfl, by go_num, by omega, hide ⟨by rw [← List.drop_drop, ← HR.out]; exact hf1, by rw [← List.drop_drop, ← HR.out]; exact hf2⟩, HO6.out, hide (fun e => absurd e HJn.out), hide (joinT_wf HWf.out HWx.out), hide (fun t ht => ?_), ?_, HS6.out, HB6.out⟩
            · have h1 := joinT_dl (x := ⟨(i : Int), 1, []⟩) (q := p) (ts := ts) HDl.out t ht
              simp only [List.length_nil] at h1; omega
            · have h1 := joinT_length ts ⟨(i : Int), 1, []⟩
              have := Htn.out
              omega
          case measure => simp [intOf]; omega
    · obtain rfl : p = n := by omega
      have HP : Hid (MakeRP w (mkA fd s D) (.returned (.tuple #[.slice va tn vc, .int .i64 0])) wr) := hide (by
        have h1 := HM.out.2
        rw [List.drop_of_length_le (by rw [← Hn.out]; exact Nat.le_refl _), mkT_nil] at h1
        refine ⟨_, rfl, ?_, HB.out⟩
        rw [← h1, Htn.out]
        exact HO.out)
      have d1 : decide ((p : Int) < (p : Int)) = false := by simp
      have d1' : decide (p < p) = false := by simp
      have d2 : decide ((8192 : Int) < (tn : Int)) = false := by simp; omega
      have d2' : decide (8192 < tn) = false := by simp; omega
      clear HO HM HIs HNil HNil2 HWf HDl c0 c1 c2 c3
      go_wp2
      go_ret2
      exact HP.out
end Go.Proofs.YtkinpbhbgeiflaaDoor.Dr
/- The region that asks the reference's Make: its stages. -/
namespace Go.Proofs.YtkinpbhbgeiflaaDoor.Ds
set_option linter.unusedVariables false
set_option linter.unusedSimpArgs false
set_option maxRecDepth 100000
open Go.ChangeShapes Go.WideShapes Go.ChangeAt Go.RowKit
open Go.Proofs.YtkinpbhbgeiflaaDoor.Wu Go.Proofs.YtkinpbhbgeiflaaDoor.Sm Go.Proofs.YtkinpbhbgeiflaaDoor.Sh Go.Proofs.YtkinpbhbgeiflaaDoor.Ba Go.Proofs.YtkinpbhbgeiflaaDoor.Bp Go.Proofs.YtkinpbhbgeiflaaDoor.Bq Go.Proofs.YtkinpbhbgeiflaaDoor.Bs Go.Proofs.YtkinpbhbgeiflaaDoor.Ka Go.Proofs.YtkinpbhbgeiflaaDoor.Kb Go.Proofs.YtkinpbhbgeiflaaDoor.Kc Go.Proofs.YtkinpbhbgeiflaaDoor.Kd Go.Proofs.YtkinpbhbgeiflaaDoor.Ke Go.Proofs.YtkinpbhbgeiflaaDoor.Kf Go.Proofs.YtkinpbhbgeiflaaDoor.Rk Go.Proofs.YtkinpbhbgeiflaaDoor.Rg Go.Proofs.YtkinpbhbgeiflaaDoor.Rx Go.Proofs.YtkinpbhbgeiflaaDoor.Rw Go.Proofs.YtkinpbhbgeiflaaDoor.Kh Go.Proofs.YtkinpbhbgeiflaaDoor.Ki Go.Proofs.YtkinpbhbgeiflaaDoor.Kj Go.Proofs.YtkinpbhbgeiflaaDoor.Kx Go.Proofs.YtkinpbhbgeiflaaDoor.Da Go.Proofs.YtkinpbhbgeiflaaDoor.Db Go.Proofs.YtkinpbhbgeiflaaDoor.Dk Go.Proofs.YtkinpbhbgeiflaaDoor.Dl Go.Proofs.YtkinpbhbgeiflaaDoor.Dm Go.Proofs.YtkinpbhbgeiflaaDoor.Do Go.Proofs.YtkinpbhbgeiflaaDoor.Dp Go.Proofs.YtkinpbhbgeiflaaDoor.Dr
open Go.Proofs.YtkinpbhbgeiflaaDoor.Sn (Fst fst_keep)
open Go.Proofs.YtkinpbhbgeiflaaDoor.Sxa (Tbl tbl_keep)
open Go.Proofs.YtkinpbhbgeiflaaDoor.Su (cutL Cnt)
attribute [local go_sem] kUpon_value kUpon_skip kUpon_enter
/-- The stages: the sums as the reference's, its answer. -/
def GT (w0 : World) (S1 : Nat) (s1 : Array Value) (sz cut len : Int) (v1 : Value) (bs : List Blk) (fin : List Tok) (z : Int) : List Value → World → Prop
  | [], u => (Below w0.heap.size w0 u ∧ u.heap[S1]? = some (.cells s1 50 (0, 0))) ∧ IsBks .u32 u v1 bs
  | [p], u => (Below w0.heap.size w0 u ∧ u.heap[S1]? = some (.cells s1 50 (0, 0))) ∧ ∃ av cv, p = sigV sz cut len (.slice av bs.length cv) ∧ IsBks .i64 u (.slice av bs.length cv) bs
  | [_, r], u => (Below w0.heap.size w0 u ∧ u.heap[S1]? = some (.cells s1 50 (0, 0))) ∧ ∃ v, r = .tuple #[v, .int .i64 z] ∧ OwnR u w0.heap.size v fin
  | _, _ => False
section
variable {w0 : World} {S1 : Nat} {s1 : Array Value} {sz cut len : Int} {v1 : Value} {bs : List Blk} {fin : List Tok} {z : Int}
theorem GT.base {h : List Value} {u : World} (H : GT w0 S1 s1 sz cut len v1 bs fin z h u) : Below w0.heap.size w0 u ∧ u.heap[S1]? = some (.cells s1 50 (0, 0)) := by
  match h, H with
  | [], H => exact H.1
  | [_], H => exact H.1
  | [_, _], H => exact H.1
end
/-- The reference's Make, whatever the sums are. -/
theorem refmake_any (u : World) (sz cut len : Int) (a : Option Addr) (m c : Nat) (bs : List Blk) (D : List Nat) (hb : IsBks .i64 u (.slice a m c) bs) (hml : bs.length = m) (hl : len ≤ 9223372036854775807) (h8 : All8 D) (hD : D.length ≤ 4096) (fin : List Tok) (z : Int)
    (hz : z = checkE sz cut len bs) (hfin : fin = if checkE sz cut len bs = 0 then mkA (fdOf sz.toNat cut.toNat len.toNat bs) sz.toNat D else []) :
    Calls Tryd.prog 24 #[sigV sz cut len (.slice a m c), .string (strN D)] u fun e w' => ∃ v, e = .returned (.tuple #[v, .int .i64 z]) ∧ OwnR w' u.heap.size v fin ∧ Below u.heap.size u w' := by
  subst hz hfin
  have HC : ∀ u' : World, Below u.heap.size u u' → Calls Tryd.prog 56 #[sigV sz cut len (.slice a m c)] u' fun e w' => e = .returned (.int .i64 (checkE sz cut len bs)) ∧ Below u'.heap.size u' w' := fun u' hu => rc_any u' sz cut len a m c bs (hb.below hu) hml hl
  by_cases h : checkE sz cut len bs = 0
  · rw [if_pos h]
    have hf : fitsE sz cut len = 0 := by
      unfold checkE at h
      split at h
      · exact h
      · rename_i h'; simpa using h'
    have hz := fitsE_zero hf
    obtain ⟨s, rfl⟩ := Int.eq_ofNat_of_zero_le (show 0 ≤ sz by omega)
    obtain ⟨k, rfl⟩ := Int.eq_ofNat_of_zero_le (show 0 ≤ cut by omega)
    obtain ⟨l, rfl⟩ := Int.eq_ofNat_of_zero_le (show 0 ≤ len by omega)
    refine (refmake_c u s k l m c a bs D hb hml h h8 hD HC).mono ?_
    rintro e w' ⟨v, rfl, ho, hb⟩
    rw [h]
    exact ⟨v, rfl, ho, hb⟩
  · rw [if_neg h]
    refine (refmake_bad u sz cut len a m c bs D HC h).mono ?_
    rintro e w' ⟨rfl, hb⟩
    exact ⟨_, rfl, OwnR.nil _ _, hb⟩
set_option maxHeartbeats 1600000 in
/-- The program's Make, where the sums aren't right. -/
theorem make_no (w : World) (sz cut len : Int) (a : Option Addr) (m c : Nat) (bs : List Blk) (ad : Option Addr) (n cd : Nat) (hb : IsBks .u32 w (.slice a m c) bs) (hl : len ≤ 9223372036854775807) (hml : bs.length ≤ 9223372036854775807) (hch : checkE sz cut len bs ≠ 0) :
    Calls Tryd.prog 23 #[sigV sz cut len (.slice a m c), .slice ad n cd] w fun e w' => e = .returned (.tuple #[.slice none 0 0, .int .i64 (checkE sz cut len bs)]) ∧ Below w.heap.size w w' := by
  have HC := hide (fun (u : World) (hu : Below w.heap.size w u) => check_c u sz cut len (.slice a m c) bs (hb.below hu) hl hml)
  obtain ⟨z, hz⟩ : ∃ z, z = checkE sz cut len bs := ⟨_, rfl⟩
  rw [← hz] at hch HC ⊢
  have e1 : (z != 0) = true := by simpa using hch
  clear hz hch hb
  unfold sigV at HC ⊢
  have HB := hide (below_new w (.cells #[.int .i64 sz, .int .i64 cut, .int .i64 len, .slice a m c] 50))
  go_enter Tryd.func23, Tryd.ntmps23
  go_wp2_with fail
  (with_reducible refine Calls.mono (HC.out _ HB.out) ?_)
  rintro e w2 ⟨rfl, hb2⟩
  have HB2 := hide (keepB hb2 (Nat.le_refl _) HB.out)
  clear hb2 HB HC
  go_wp2
  go_ret2
  exact ⟨rfl, HB2.out⟩
/-- The program's Make, whatever the sums are. -/
theorem make_any (w : World) (sz cut len : Int) (a : Option Addr) (m c : Nat) (bs : List Blk) (ad : Option Addr) (n cd : Nat) (D : List Nat) (hb : IsBks .u32 w (.slice a m c) bs) (hml : bs.length = m) (hm : m ≤ 1000000) (hl : len ≤ 9223372036854775807) (hs : SrcB w ad n D) (hc : n ≤ cd) (hcm : cd ≤ 9223372036854775807) (hnil : ad = none → n = 0) (hn : n ≤ 8192) (hT : Tbl w) (hF : Fst w) (fin : List Tok) (z : Int)
    (hz : z = checkE sz cut len bs) (hfin : fin = if checkE sz cut len bs = 0 then mkA (fdOf sz.toNat cut.toNat len.toNat bs) sz.toNat D else []) :
    Calls Tryd.prog 23 #[sigV sz cut len (.slice a m c), .slice ad n cd] w fun e w' => ∃ v ps, e = .returned (.tuple #[v, .int .i64 z]) ∧ ps.map (·.1) = fin ∧ OwnT w' w.heap.size v ps ∧ Below w.heap.size w w' := by
  subst hz hfin
  by_cases h : checkE sz cut len bs = 0
  · rw [if_pos h]
    have hf : fitsE sz cut len = 0 := by
      unfold checkE at h
      split at h
      · exact h
      · rename_i h'; simpa using h'
    have hz := fitsE_zero hf
    obtain ⟨s, rfl⟩ := Int.eq_ofNat_of_zero_le (show 0 ≤ sz by omega)
    obtain ⟨k, rfl⟩ := Int.eq_ofNat_of_zero_le (show 0 ≤ cut by omega)
    obtain ⟨l, rfl⟩ := Int.eq_ofNat_of_zero_le (show 0 ≤ len by omega)
    refine (make_c w s k l m c a bs ad n cd D hb hml h hs hc hcm hnil hn hT hF).mono ?_
    rintro e w' ⟨v, ps, rfl, hps, ho, hb⟩
    rw [h]
    exact ⟨v, ps, rfl, hps, ho, hb⟩
  · rw [if_neg h]
    refine (make_no w sz cut len a m c bs ad n cd hb hl (by omega) h).mono ?_
    rintro e w' ⟨rfl, hb⟩
    exact ⟨_, [], rfl, rfl, OwnT.nil _ _, hb⟩
end Go.Proofs.YtkinpbhbgeiflaaDoor.Ds
