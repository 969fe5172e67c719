/- The parts that the laws of layer 1 take of what came in. -/
import Derived.Test.YtpaijhmbfljfmaaDoorSo
import Derived.Test.YtpaijhmbfljfmaaDoorRo
import Derived.Test.YtpaijhmbfljfmaaDoorBs
import Derived.Maps.AppendAt
import Derived.Laws.Concat
namespace Go.Proofs.YtpaijhmbfljfmaaDoor.Sj
set_option linter.unusedVariables false
set_option linter.unusedSimpArgs false
set_option maxRecDepth 100000
open Go.ChangeShapes Go.WideShapes Go.ChangeAt Go.RowKit
open Go.Proofs.YtpaijhmbfljfmaaDoor.Wu Go.Proofs.YtpaijhmbfljfmaaDoor.Sm Go.Proofs.YtpaijhmbfljfmaaDoor.Sh Go.Proofs.YtpaijhmbfljfmaaDoor.Sc Go.Proofs.YtpaijhmbfljfmaaDoor.Sk Go.Proofs.YtpaijhmbfljfmaaDoor.Sxa Go.Proofs.YtpaijhmbfljfmaaDoor.Sf Go.Proofs.YtpaijhmbfljfmaaDoor.So Go.Proofs.YtpaijhmbfljfmaaDoor.Ro Go.Proofs.YtpaijhmbfljfmaaDoor.Bs
theorem strN_append (A B : List Nat) : strN A ++ strN B = strN (A ++ B) := by
  unfold strN strOfNums
  apply ByteArray.ext
  simp [ByteArray.data_append]
theorem add_strN (A B : List Nat) (hA : A.length ≤ 8000000) (hB : B.length ≤ 8000000) (u : World) : Sem.run Tryd.prog (Op.stringOp .add (strN A) (strN B)) u = .ok (.string (strN (A ++ B))) u := by
  have h := run_string_add (P := Tryd.prog) u (strN A) (strN B) (by rw [strN_size]; omega) (by rw [strN_size]; omega)
  rw [h, strN_append]
theorem info_sl : (Tryd.prog.info? 31).map (fun i => (i.zero, i.size, i.bytes)) = some (some (.slice none 0 0), 1, 24) := by kernel_rfl
/-- Parts in a slice of the call's own. -/
def Own (w : World) (N : Nat) (v : Value) (Ps : List Part) : Prop := w.ownsRow N 31 1 v Ps.length (Ps.map Part.val)
theorem Own.nil (w : World) (N : Nat) : Own w N (.slice none 0 0) [] := World.ownsRow_nil _ _ _ _
theorem Own.form {w : World} {N : Nat} {v : Value} {Ps : List Part} (h : Own w N v Ps) : ∃ a cap, v = .slice a Ps.length cap ∧ Ps.length ≤ cap ∧ cap ≤ maxLen := by
  obtain ⟨h1, h2⟩ := h
  rcases h2 with ⟨rfl, hn⟩ | ⟨g, cap, cur, rfl, hb, hg, hl, hm, _⟩
  · exact ⟨none, 0, by rw [hn], by omega, Nat.zero_le _⟩
  · exact ⟨_, cap, rfl, hl, hm⟩
theorem Own.own {w : World} {N : Nat} {v : Value} {Ps : List Part} (h : Own w N v Ps) : ∀ g, v.ownBlock = some g → N ≤ g ∧ g < w.heap.size := by
  obtain ⟨h1, h2⟩ := h
  rcases h2 with ⟨rfl, hn⟩ | ⟨g, cap, cur, rfl, hb, hg, hl, hm, _⟩
  · intro g h; cases h
  · intro g' h
    injection h with h
    have h : g = g' := h
    subst h
    exact ⟨hb, heap_lt hg⟩
theorem Own.same {w w' : World} {N : Nat} {v : Value} {Ps : List Part} (h : Own w N v Ps) (hk : ∀ g, v.ownBlock = some g → w'.heap[g]? = w.heap[g]?) : Own w' N v Ps := by
  obtain ⟨h1, h2⟩ := h
  refine ⟨h1, ?_⟩
  rcases h2 with h | ⟨g, cap, cur, e, hb, hg, r⟩
  · exact .inl h
  · exact .inr ⟨g, cap, cur, e, hb, (hk g (by rw [e]; rfl)).trans hg, r⟩
theorem Own.below {w w' : World} {N : Nat} {v : Value} {Ps : List Part} (h : Own w N v Ps) (hb : Below w.heap.size w w') : Own w' N v Ps := h.same (fun g hg => hb.block g (h.own g hg).2)
theorem Own.parts {w : World} {N : Nat} {Ps : List Part} {a : Option Addr} {n cap : Nat} (h : Own w N (.slice a n cap) Ps) (hok : ∀ p ∈ Ps, p.ok w) : Parts w a Ps := by
  obtain ⟨h1, h2⟩ := h
  rcases h2 with ⟨e, hn⟩ | ⟨g, c, cur, e, hb, hg, hl, hm, hs, ht⟩
  · obtain rfl : Ps = [] := List.length_eq_zero_iff.1 hn
    exact ⟨0, 0, fun h => absurd h (by simp), fun i p hp => by simp at hp⟩
  · injection e with e1 e2 e3
    refine ⟨g, 0, fun _ => e1, fun i p hp => ⟨?_, hok p (List.mem_of_getElem? hp)⟩⟩
    have hlt : i < Ps.length := (List.getElem?_eq_some_iff.1 hp).1
    have h3 : cur.toList[i]? = some p.val := by
      have : (cur.toList.take (Ps.length * 1))[i]? = some p.val := by rw [ht]; simp [hp]
      rw [List.getElem?_take_of_lt (by omega)] at this
      exact this
    rw [Nat.zero_add]
    exact blk_cell hg (by simpa using h3)
/-- append(own, p) -/
theorem append_part (w : World) (ty : TypeId) (v : Value) (N : Nat) (Ps : List Part) (p : Part) (b : Nat) (T : TypeId) (f : Nat × Nat) (c : Nat) (h : Own w N v Ps) (hb : w.heap[b]? = some (.cells #[p.val] T f)) (hN : N ≤ w.heap.size) (hbig : Ps.length ≤ 1000000) :
    ∃ v' w', (Builtin.append_ #[22, 22] ty #[v, .slice (some ⟨b, 0, none⟩) 1 c]).run Tryd.prog w = .ok v' w' ∧ Own w' N v' (Ps ++ [p]) ∧ w.grownBy w' v.ownBlock ∧ (v'.ownBlock = v.ownBlock ∨ v'.ownBlock = some w.heap.size) := by
  obtain ⟨i0, hi0, hz0, hz1, hz2⟩ := info_parts info_sl
  obtain ⟨v', w', hr, h1, h2, h3, h4⟩ := run_append_own_at (P := Tryd.prog) w N 22 ty 31 i0 _ 1 24 Tryd.underlying22 hi0 hz0 hz1 hz2 rfl (by omega) v Ps.length _ h ⟨b, 0, none⟩ 1 c [p.val] rfl (fun j u hu => by
      rw [Addr.add_mid, Nat.zero_add]
      exact blk_cell hb (by simpa using hu)) (by intro u hu; simp only [List.mem_cons, List.not_mem_nil, or_false] at hu; subst hu; rfl) (by unfold maxLen; omega) (by omega) hN
  refine ⟨v', w', hr, ?_, h2, h4⟩
  unfold Own
  rw [List.length_append, List.map_append]
  exact h1
theorem wpList_append_part {w : World} {ops : Array Oper} {rest : List Oper} {o : Oper} {a : Act} {Q : Exit → Act → World → Prop} (hgd : o.guard = none) (sl x : Operand)
    (ho : o.op = .call { callee := .builtin .append, args := #[sl, x], argTypes := #[22, 22] }) (v : Value) (N : Nat) (Ps : List Part) (p : Part) (b : Nat) (T : TypeId) (f : Nat × Nat) (c : Nat)
    (hs : a.eval sl = v) (hx : a.eval x = .slice (some ⟨b, 0, none⟩) 1 c) (h : Own w N v Ps) (hb : w.heap[b]? = some (.cells #[p.val] T f)) (hN : N ≤ w.heap.size) (hbig : Ps.length ≤ 1000000)
    (H : ∀ v' w', Hid (Own w' N v' (Ps ++ [p])) → Hid (w.grownBy w' v.ownBlock) → Hid (wpList Tryd.prog ops Q rest (a.put o.dst v') w')) : wpList Tryd.prog ops Q (o :: rest) a w := by
  obtain ⟨v', w', hrun, h1, h2, h3⟩ := append_part w o.type v N Ps p b T f c h hb hN hbig
  refine wpList_plain hgd fun K hK => ?_
  unfold Oper.wp
  simp [execOp, ho, resolve, invoke, builtin, hs, hx, hrun, Result.andThen]
  exact hK _ _ (H v' w' h1 h2)
/-- What join gives. -/
def JoinP (w : World) (e : Ending) (w' : World) : Prop := ∃ a cap Ps, e = .returned (.tuple #[.slice a (List.length Ps) cap, .string (strN (flat Ps))]) ∧ Parts w' a Ps ∧ Ps.length ≤ 8 ∧ (flat Ps).length ≤ 1600 ∧ Below w.heap.size w w'
/-- What join has made so far. -/
structure J (w : World) (i : Nat) (v : Value) (Ps : List Part) (wr : World) : Prop where
  own : Own wr w.heap.size v Ps
  ok : ∀ p ∈ Ps, p.ok w
  n : Ps.length ≤ i ∧ Ps.length ≤ 8
  len : (flat Ps).length ≤ Ps.length * 200
  below : Below w.heap.size w wr
theorem Part.ok.below {w w' : World} {p : Part} (h : p.ok w) (hb : Below w.heap.size w w') : p.ok w' := ⟨h.1.below hb, h.2⟩
theorem J.post {w wr : World} {i : Nat} {v : Value} {Ps : List Part} (h : J w i v Ps wr) : ∃ a cap, v = .slice a Ps.length cap ∧ JoinP w (.returned (.tuple #[v, .string (strN (flat Ps))])) wr := by
  obtain ⟨a, cap, rfl, h1, h2⟩ := h.own.form
  exact ⟨a, cap, rfl, a, cap, Ps, rfl, h.own.parts (fun p hp => Part.ok.below (h.ok p hp) h.below), h.n.2, by have := h.len; have := h.n.2; omega, h.below⟩
theorem src_min {w : World} {a : Option Addr} {n : Nat} {L : List Nat} (h : SrcB w a n L) (k : Nat) : SrcB w a (min n k) (L.take (min n k)) := by
  obtain ⟨hl, h8, b, off, ha, hc⟩ := h
  refine ⟨by rw [List.length_take]; omega, fun x hx => h8 x (List.mem_of_mem_take hx), b, off, fun h0 => ha (by omega), fun i hi => ?_⟩
  rw [hc i (by omega)]
  simp [List.getD, List.getElem?_take_of_lt hi]
set_option maxHeartbeats 3200000 in
theorem join_c (a : Option Addr) (len cap : Nat) (w : World) (hf : IsRows w a len cap) : Calls Tryd.prog 16 #[.slice a len cap] w (JoinP w) := by
  have HRs := hide hf.2.2
  have hcap := hf.1
  have hcap2 := hf.2.1
  clear hf
  have H0 : Hid (J w 0 (.slice none 0 0) [] w) := hide ⟨Own.nil _ _, (by intro p hp; cases hp), by simp, by simp [flat], Below.refl _ _⟩
  go_enter Tryd.func16, Tryd.ntmps16
  go_wp2_with fail
  go_loopw [10, 4, 5] (fun j own all wr => ∃ i Ps, j = .int .i64 ((i : Nat) : Int) ∧ i ≤ len ∧ all = .string (strN (flat Ps)) ∧ J w i own Ps wr) (fun j _ _ _ => len - (intOf j).toNat)
  case atStart => exact ⟨0, [], rfl, Nat.zero_le _, rfl, H0.out⟩
  case round =>
    clear H0
    obtain ⟨i, Ps, rfl, hi, rfl, hJ⟩ := hrel
    have HJ := hide hJ
    have hJl := hJ.len
    have hJn := hJ.n
    clear hJ
    by_cases hlt : i < len
    · obtain ⟨xb, xo, ha, hcells⟩ := HRs.out (by omega)
      obtain ⟨b, l, c, D, c0, hsD, hlc, hcm, hbn⟩ := hcells i hlt
      subst ha
      have k0 := keepC HJ.out.below (Nat.le_refl _) c0
      have HSD := hide hsD
      clear hcells c0 hsD
      by_cases h8 : i < 8
      · obtain ⟨n, hn⟩ : ∃ n, n = min l 200 := ⟨_, rfl⟩
        have hnl : n ≤ l := by omega
        have hn2 : n ≤ 200 := by omega
        have hnc : n ≤ c := by omega
        have HP1 : Hid (Part.ok w ⟨b, n, c, D.take n⟩) := hide ⟨by rw [hn]; exact src_min HSD.out 200, hnc⟩
        have hDn : (D.take n).length = n := by rw [List.length_take, HSD.out.1]; omega
        have Hb := hide (heap_last wr (.cells #[.slice b n c] 31))
        have hbn1 := below_new wr (.cells #[.slice b n c] 31)
        have HO1 := hide (HJ.out.own.below hbn1)
        have HB1 := hide (keepB hbn1 (Nat.le_refl _) HJ.out.below)
        have HF : Hid ((flat (Ps ++ [⟨b, n, c, D.take n⟩])).length ≤ (Ps.length + 1) * 200) := hide (by rw [flat_snoc, List.length_append, hDn]; omega)
        have HAd := hide (add_strN (flat Ps) (D.take n) (by omega) (by omega))
        have HJok := hide HJ.out.ok
        clear HSD hbn1
        have hcs : (n = l ∧ ¬ 200 < l) ∨ (n = 200 ∧ 200 < l) := by omega
        clear hn
        as_aux_lemma =>
        rcases hcs with ⟨h1, h2⟩ | ⟨h1, h2⟩
        · skip
          subst h1
          clear HJ
          go_wp2_with (refine wpList_append_part rfl (.tmp 22) (.tmp 24) rfl u4 w.heap.size Ps ⟨b, n, c, D.take n⟩ wr.heap.size 31 (0, 0) 1 rfl rfl HO1.out Hb.out HB1.out.size (by omega) ?_)
          intro v2 w2 HO2 HG2
          refine of_hid ?_
          have hB2 := Below.grown HB1.out HG2.out HB1.out.size (fun k hk => (HO1.out.own k hk).1)
          have HV := hide (conv_src (cap := c) (HP1.out.1.below hB2))
          have HN : Hid (J w (i + 1) v2 (Ps ++ [⟨b, n, c, D.take n⟩]) w2) := hide ⟨HO2.out, fun p hp => by
            rcases List.mem_append.1 hp with h | h
            · exact HJok.out p h
            · rw [List.mem_singleton.1 h]; exact HP1.out, by rw [List.length_append]; exact ⟨by simp only [List.length_cons, List.length_nil]; omega, by simp only [List.length_cons, List.length_nil]; omega⟩, by rw [List.length_append]; exact HF.out, hB2⟩
          clear HO1 HO2 HG2 hB2 HP1 HF HJok Hb HB1
          go_wp2_with fail
          rw [HV.out]
          have hAd := HAd.out
          go_wp2
          go_roundw
          case rel => exact ⟨i + 1, Ps ++ [⟨b, n, c, D.take n⟩], by go_num, by omega, by rw [flat_snoc], HN.out⟩
          case measure => simp [intOf]; omega
        · skip
          subst h1
          clear HJ
          go_wp2_with (refine wpList_append_part rfl (.tmp 22) (.tmp 24) rfl u4 w.heap.size Ps ⟨b, 200, c, D.take 200⟩ wr.heap.size 31 (0, 0) 1 rfl rfl HO1.out Hb.out HB1.out.size (by omega) ?_)
          intro v2 w2 HO2 HG2
          refine of_hid ?_
          have hB2 := Below.grown HB1.out HG2.out HB1.out.size (fun k hk => (HO1.out.own k hk).1)
          have HV := hide (conv_src (cap := c) (HP1.out.1.below hB2))
          have HN : Hid (J w (i + 1) v2 (Ps ++ [⟨b, 200, c, D.take 200⟩]) w2) := hide ⟨HO2.out, fun p hp => by
            rcases List.mem_append.1 hp with h | h
            · exact HJok.out p h
            · rw [List.mem_singleton.1 h]; exact HP1.out, by rw [List.length_append]; exact ⟨by simp only [List.length_cons, List.length_nil]; omega, by simp only [List.length_cons, List.length_nil]; omega⟩, by rw [List.length_append]; exact HF.out, hB2⟩
          clear HO1 HO2 HG2 hB2 HP1 HF HJok Hb HB1
          go_wp2_with fail
          rw [HV.out]
          have hAd := HAd.out
          go_wp2
          go_roundw
          case rel => exact ⟨i + 1, Ps ++ [⟨b, 200, c, D.take 200⟩], by go_num, by omega, by rw [flat_snoc], HN.out⟩
          case measure => simp [intOf]; omega
      · have HN : Hid (J w (i + 1) u4 Ps wr) := hide ⟨HJ.out.own, HJ.out.ok, by omega, HJ.out.len, HJ.out.below⟩
        go_wp2
        go_roundw
        case rel => exact ⟨i + 1, Ps, by go_num, by omega, rfl, HN.out⟩
        case measure => simp [intOf]; omega
    · obtain ⟨a', c', rfl, hp⟩ := HJ.out.post
      have HP := hide hp
      clear hp HJ
      go_wp2
      go_ret2
      exact HP.out
end Go.Proofs.YtpaijhmbfljfmaaDoor.Sj
