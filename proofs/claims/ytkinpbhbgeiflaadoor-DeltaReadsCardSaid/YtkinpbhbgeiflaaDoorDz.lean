/- Law 07's plain, for any length that a slice may have. -/
import Derived.Test.YtkinpbhbgeiflaaDoorQk
namespace Go.Proofs.YtkinpbhbgeiflaaDoor.Dz
set_option linter.unusedVariables false
set_option linter.unusedSimpArgs false
set_option maxRecDepth 100000
open Go.ChangeShapes Go.WideShapes Go.ChangeAt Go.RowKit
open Go.Proofs.YtkinpbhbgeiflaaDoor.Wu Go.Proofs.YtkinpbhbgeiflaaDoor.Sm Go.Proofs.YtkinpbhbgeiflaaDoor.Sh Go.Proofs.YtkinpbhbgeiflaaDoor.Ba Go.Proofs.YtkinpbhbgeiflaaDoor.Bp Go.Proofs.YtkinpbhbgeiflaaDoor.Bq Go.Proofs.YtkinpbhbgeiflaaDoor.Bs Go.Proofs.YtkinpbhbgeiflaaDoor.Rk Go.Proofs.YtkinpbhbgeiflaaDoor.Rw Go.Proofs.YtkinpbhbgeiflaaDoor.Da Go.Proofs.YtkinpbhbgeiflaaDoor.Db
open Go.Proofs.YtkinpbhbgeiflaaDoor.Do
theorem append_big (w : World) (ty : TypeId) (v : Value) (N : Nat) (ts : List Tok) (b : Nat) (t : Tok) (T : TypeId) (f : Nat × Nat) (c : Nat) (h : OwnR w N v ts) (hN : N ≤ w.heap.size) (hb : w.heap[b]? = some (.cells #[.int .i64 t.f, .int .i64 t.c, .string (strN t.d)] T f)) (hbig : ts.length ≤ 4000000000000) :
    ∃ v' w', (Builtin.append_ #[56, 56] ty #[v, .slice (some ⟨b, 0, none⟩) 1 c]).run Tryd.prog w = .ok v' w' ∧ OwnR w' N v' (ts ++ [t]) ∧ w.grownBy w' v.ownBlock ∧ (v'.ownBlock = v.ownBlock ∨ v'.ownBlock = some w.heap.size) := by
  obtain ⟨i0, hi0, hz0, hz1, hz2⟩ := info_parts info_rt
  obtain ⟨v', w', hr, h1, h2, h3, h4⟩ := run_append_own_at (P := Tryd.prog) w N 56 ty 131 i0 _ 3 32 Tryd.underlying56 hi0 hz0 hz1 hz2 rfl (by omega) v ts.length (rowR ts) h ⟨b, 0, none⟩ 1 c (rtC t) rfl (cells3 hb) (by
    intro u hu
    simp only [rtC, List.mem_cons, List.not_mem_nil, or_false] at hu
    rcases hu with rfl | rfl | rfl <;> rfl) (by unfold maxLen; omega) (by omega) hN
  refine ⟨v', w', hr, ?_, h2, h4⟩
  unfold OwnR
  rw [rowR_append, List.length_append]
  exact h1
theorem wpList_append_big {w : World} {ops : Array Oper} {rest : List Oper} {o : Oper} {a : Act} {Q : Exit → Act → World → Prop} (hgd : o.guard = none) (sl x : Operand)
    (ho : o.op = .call { callee := .builtin .append, args := #[sl, x], argTypes := #[56, 56] }) (v : Value) (N : Nat) (ts : List Tok) (b : Nat) (t : Tok) (T : TypeId) (f : Nat × Nat) (c : Nat)
    (hs : a.eval sl = v) (hx : a.eval x = .slice (some ⟨b, 0, none⟩) 1 c) (h : OwnR w N v ts) (hN : N ≤ w.heap.size) (hb : w.heap[b]? = some (.cells #[.int .i64 t.f, .int .i64 t.c, .string (strN t.d)] T f)) (hbig : ts.length ≤ 4000000000000)
    (H : ∀ v' w', Hid (OwnR w' N v' (ts ++ [t])) → Hid (w.grownBy w' v.ownBlock) → Hid (wpList Tryd.prog ops Q rest (a.put o.dst v') w')) : wpList Tryd.prog ops Q (o :: rest) a w := by
  obtain ⟨v', w', hrun, h1, h2, h3⟩ := append_big w o.type v N ts b t T f c h hN hb hbig
  refine wpList_plain hgd fun K hK => ?_
  unfold Oper.wp
  simp [execOp, ho, resolve, invoke, builtin, hs, hx, hrun, Result.andThen]
  exact hK _ _ (H v' w' h1 h2)
set_option maxHeartbeats 3200000 in
theorem plain_big (w : World) (a : Option Addr) (n c : Nat) (ts : List Tok) (h : IsT w a n c ts) (hbig : n ≤ 3999999999999) : Calls Tryd.prog 27 #[.slice a n c] w (PlainP w ts) := by
  obtain ⟨hl, hnc, hcm, g, off, ha, hat⟩ := h
  have Hat := hide (fun i t ht (u : World) (hu : Below w.heap.size w u) => by
    obtain ⟨ad, m, cd, c0, c1, c2, hs, r⟩ := hat i t ht
    exact (⟨ad, m, cd, keepC hu (Nat.le_refl _) c0, keepC hu (Nat.le_refl _) c1, keepC hu (Nat.le_refl _) c2, hs.below hu⟩ : ∃ ad m cd, u.cell? ⟨g, off + i * 3, none⟩ = some (.int .i64 t.f) ∧ u.cell? ⟨g, off + (i * 3 + 1), none⟩ = some (.int .i64 t.c) ∧ u.cell? ⟨g, off + (i * 3 + 2), none⟩ = some (.slice ad m cd) ∧ SrcB u ad m t.d))
  have HL := hide hl
  clear hat hl
  go_enter Tryd.func27, Tryd.ntmps27
  go_wp2_with fail
  go_loopw [3, 8] (fun x j wr => ∃ i v, v = x ∧ j = .int .i64 ((i : Nat) : Int) ∧ i ≤ n ∧ OwnR wr w.heap.size v (ts.take i) ∧ Below w.heap.size w wr) (fun _ j _ => n - (intOf j).toNat)
  case atStart => exact ⟨0, _, rfl, rfl, Nat.zero_le _, OwnR.nil _ _, Below.refl _ _⟩
  case round =>
    obtain ⟨i, v, rfl, rfl, hi, hO, hB⟩ := hrel
    have HO := hide hO
    have HB := hide hB
    clear hO hB
    by_cases hlt : i < n
    · obtain ⟨t, ht⟩ : ∃ t, ts[i]? = some t := ⟨ts[i]'(by rw [HL.out]; exact hlt), by rw [List.getElem?_eq_getElem]⟩
      have ha1 := ha (by omega)
      subst ha1
      obtain ⟨ad, m, cd, c0, c1, c2, -⟩ := Hat.out i t ht wr HB.out
      have HR := hide (fun (u : World) (hu : Below w.heap.size w u) (hc2 : u.cell? ⟨g, off + (i * 3 + 2), none⟩ = some (.slice ad m cd)) => (show SrcB u ad m t.d from by
        obtain ⟨ad', m', cd', -, -, k2, hs⟩ := Hat.out i t ht u hu
        rw [hc2] at k2
        injection k2 with k2
        injection k2 with e1 e2 e3
        rw [e1, e2]; exact hs))
      have Htk : Hid (ts.take (i + 1) = ts.take i ++ [t]) := hide (by rw [List.take_add_one, ht]; rfl)
      have d1 : decide ((i : Int) < (n : Int)) = true := by simpa using hlt
      have i1 : (0 : Int) ≤ (i : Int) := by omega
      have i2 : (i : Int) < (n : Int) := by omega
      have hrg : wr.rangeAt g (off + i * 3) [.int .i64 t.f, .int .i64 t.c, .slice ad m cd] := fun j v hv => by
        match j, hv with
        | 0, hv => simp at hv; subst hv; exact c0
        | 1, hv => simp at hv; subst hv; rw [Nat.add_assoc]; exact c1
        | 2, hv => simp at hv; subst hv; rw [Nat.add_assoc]; exact c2
      have Hc2 := hide c2
      clear ht ha c0 c1 c2
      go_wp2_with (first
        | (refine wpList_load_part rfl 68 _ rfl g (off + i * 3) [.int .i64 t.f, .int .i64 t.c, .slice ad m cd] rfl hrg _ Tryd.underlying68 rfl (by kernel_rfl) ?_)
        | (refine wpList_store_all rfl 68 _ _ rfl wr.heap.size #[.int .i64 t.f, .int .i64 t.c, .slice ad m cd] _ 68 rfl rfl (heap_last _ _) rfl (by kernel_rfl) (all_oneCell_toArray (by intro v hv; simp only [List.mem_cons, List.not_mem_nil, or_false] at hv; rcases hv with rfl | rfl | rfl <;> rfl)) ?_))
      intro w5 H5 HG5
      refine of_hid ?_
      have hb5 : Below wr.heap.size wr w5 := belowG (below_new wr (.cells #[.int .i64 0, .int .i64 0, .slice none 0 0] 68)) HG5.out (Nat.le_refl _) (by simp)
      have HO5 := hide (HO.out.below hb5)
      have HB5 := hide (keepB hb5 (Nat.le_refl _) HB.out)
      have hcv := conv_src (cap := cd) (HR.out w5 HB5.out (keepC hb5 (Nat.le_refl _) Hc2.out))
      have s0 : w5.cell? ⟨wr.heap.size, 0, none⟩ = some (.int .i64 t.f) := blk_cell H5.out rfl
      have s1 : w5.cell? ⟨wr.heap.size, 1, none⟩ = some (.int .i64 t.c) := blk_cell H5.out rfl
      have s2 : w5.cell? ⟨wr.heap.size, 2, none⟩ = some (.slice ad m cd) := blk_cell H5.out rfl
      have hO6 := HO5.out.below (below_new w5 (.cells #[.int .i64 t.f, .int .i64 t.c, .string (strN t.d)] 131))
      have hB6 := keepB (below_new w5 (.cells #[.int .i64 t.f, .int .i64 t.c, .string (strN t.d)] 131)) (Nat.le_refl _) HB5.out
      have HO6 := hide hO6
      have HB6 := hide hB6
      have hbl : (ts.take i).length ≤ 4000000000000 := by rw [List.length_take]; omega
      clear hb5 HO HB HO5 HB5 HG5 H5 hrg hO6 hB6 HR Hc2
      go_wp2_with (refine wpList_append_big rfl _ _ rfl v w.heap.size (ts.take i) w5.heap.size t 131 (0, 0) 1 rfl rfl HO6.out HB6.out.size (heap_last _ _) hbl ?_)
      intro v' w7 HO7 HG7
      refine of_hid ?_
      rw [← Htk.out] at HO7
      have HB7 : Hid (Below w.heap.size w w7) := hide (HB6.out.grown HG7.out HB6.out.size (fun q hq => (HO6.out.own q hq).1))
      clear HO6 HB6 HG7 s0 s1 s2 hcv
      go_wp2
      go_roundw
      case rel => exact ⟨i + 1, _, rfl, by go_num, by omega, HO7.out, HB7.out⟩
      case measure => simp [intOf]; omega
    · obtain rfl : i = n := by omega
      have HP : Hid (PlainP w ts (.returned v) wr) := hide ⟨v, rfl, by have := HO.out; rw [List.take_of_length_le (by rw [HL.out]; exact Nat.le_refl _)] at this; exact this, HB.out⟩
      have d1 : decide ((i : Int) < (i : Int)) = false := by simp
      clear HO HB hi ha
      go_wp2
      go_ret
      exact HP.out
end Go.Proofs.YtkinpbhbgeiflaaDoor.Dz
