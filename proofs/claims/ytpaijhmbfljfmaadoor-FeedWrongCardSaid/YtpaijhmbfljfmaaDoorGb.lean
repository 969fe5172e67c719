/- A slice of frames of the call's own: what it holds, append to it. -/
import Derived.Test.YtpaijhmbfljfmaaDoorGa
import Derived.Maps.AppendAt
namespace Go.Proofs.YtpaijhmbfljfmaaDoor.Gb
set_option linter.unusedVariables false
set_option linter.unusedSimpArgs false
set_option maxRecDepth 100000
open Go.RowKit
open Go.Proofs.YtpaijhmbfljfmaaDoor.Wu Go.Proofs.YtpaijhmbfljfmaaDoor.Sm Go.Proofs.YtpaijhmbfljfmaaDoor.Sh Go.Proofs.YtpaijhmbfljfmaaDoor.Ba Go.Proofs.YtpaijhmbfljfmaaDoor.Bp Go.Proofs.YtpaijhmbfljfmaaDoor.Bq Go.Proofs.YtpaijhmbfljfmaaDoor.Ga
theorem Dst.same {w w' : World} {g n cap : Nat} {L : List Nat} (h : Dst w g n cap L) (e : w'.heap[g]? = w.heap[g]?) (hs : w.heap.size ≤ w'.heap.size) : Dst w' g n cap L :=
  ⟨h.len, h.all, h.fit, h.max, Nat.lt_of_lt_of_le h.lt hs, fun j v hv => by rw [World.cell?_of_block (a := ⟨g, 0 + j, none⟩) e]; exact h.cells j v hv,
    fun j hj => ⟨by rw [World.cell?_of_block (a := ⟨g, n + j, none⟩) e]; exact (h.spare j hj).1, by rw [World.frozen?_of_block (a := ⟨g, n + j, none⟩) e]; exact (h.spare j hj).2⟩,
    fun o => by rw [World.frozen?_of_block (a := ⟨g, o, none⟩) e]; exact h.free o⟩
/-- The cells of frames; their data lie in rows of their own, none of which is the row of the cells. -/
def FrC (w : World) (ok : Nat → Prop) (row : Option Nat) : List Fr → List Value → Prop
  | [], xs => xs = []
  | f :: fs, xs => ∃ g cap ys, xs = .int .i64 (f.k : Int) :: .int .i64 (f.s : Int) :: .slice (some ⟨g, 0, none⟩) f.d.length cap :: ys ∧ ok g ∧ some g ≠ row ∧ Dst w g f.d.length cap f.d ∧ FrC w ok row fs ys
theorem FrC.same {w w' : World} {ok ok' : Nat → Prop} {row row' : Option Nat} (hs : w.heap.size ≤ w'.heap.size) (hrow : ∀ g, ok g → g < w.heap.size → some g ≠ row → ok' g ∧ some g ≠ row' ∧ w'.heap[g]? = w.heap[g]?) : ∀ (fs : List Fr) (xs : List Value), FrC w ok row fs xs → FrC w' ok' row' fs xs
  | [], xs, h => h
  | f :: fs, xs, ⟨g, cap, ys, h1, h2, h3, h4, h5⟩ =>
    have hg := hrow g h2 h4.lt h3
    ⟨g, cap, ys, h1, hg.1, hg.2.1, Dst.same h4 hg.2.2 hs, FrC.same hs hrow fs ys h5⟩
theorem FrC.snoc {w : World} {ok : Nat → Prop} {row : Option Nat} {k s n g cap : Nat} {D : List Nat} (hn : D.length = n) (hN : ok g) (hr : some g ≠ row) (hd : Dst w g n cap D) : ∀ (fs : List Fr) (xs : List Value), FrC w ok row fs xs → FrC w ok row (fs ++ [⟨k, s, D⟩]) (xs ++ [.int .i64 (k : Int), .int .i64 (s : Int), .slice (some ⟨g, 0, none⟩) n cap])
  | [], xs, h => by
    subst hn
    rw [show xs = [] from h]
    exact ⟨g, cap, [], rfl, hN, hr, hd, rfl⟩
  | f :: fs, xs, ⟨g', cap', ys, h1, h2, h3, h4, h5⟩ =>
    ⟨g', cap', ys ++ _, by rw [h1]; rfl, h2, h3, h4, FrC.snoc hn hN hr hd fs ys h5⟩
theorem FrC.length {w : World} {ok : Nat → Prop} {row : Option Nat} : ∀ (fs : List Fr) (xs : List Value), FrC w ok row fs xs → xs.length = fs.length * 3
  | [], xs, h => by rw [show xs = [] from h]; rfl
  | f :: fs, xs, ⟨g', cap', ys, h1, h2, h3, h4, h5⟩ => by
    have := FrC.length fs ys h5
    rw [h1]; simp only [List.length_cons]; omega
theorem FrC.one {w : World} {ok : Nat → Prop} {row : Option Nat} : ∀ (fs : List Fr) (xs : List Value), FrC w ok row fs xs → ∀ u ∈ xs, u.oneCell' = true
  | [], xs, h => by rw [show xs = [] from h]; intro u hu; cases hu
  | f :: fs, xs, ⟨g', cap', ys, h1, h2, h3, h4, h5⟩ => by
    have ih := FrC.one fs ys h5
    intro u hu
    rw [h1] at hu
    simp only [List.mem_cons] at hu
    rcases hu with rfl | rfl | rfl | hu
    · rfl
    · rfl
    · rfl
    · exact ih u hu
theorem FrC.append {w : World} {ok : Nat → Prop} {row : Option Nat} {gs : List Fr} {zs : List Value} (hz : FrC w ok row gs zs) : ∀ (fs : List Fr) (xs : List Value), FrC w ok row fs xs → FrC w ok row (fs ++ gs) (xs ++ zs)
  | [], xs, h => by rw [show xs = [] from h]; exact hz
  | f :: fs, xs, ⟨g', cap', ys, h1, h2, h3, h4, h5⟩ => ⟨g', cap', ys ++ zs, by rw [h1]; rfl, h2, h3, h4, FrC.append hz fs ys h5⟩
/-- Frames in a slice: all their blocks are such as 'ok' says. -/
def Frs (w : World) (v : Value) (ok : Nat → Prop) (fs : List Fr) : Prop := ∃ xs, w.ownsRow 0 51 3 v fs.length xs ∧ (∀ g, v.ownBlock = some g → ok g) ∧ FrC w ok v.ownBlock fs xs
theorem Frs.nil (w : World) (ok : Nat → Prop) : Frs w (.slice none 0 0) ok [] := ⟨[], World.ownsRow_nil _ _ _ _, (fun g h => by cases h), rfl⟩
theorem Frs.form {w : World} {v : Value} {ok : Nat → Prop} {fs : List Fr} (h : Frs w v ok fs) : ∃ a cap, v = .slice a fs.length cap ∧ fs.length ≤ cap ∧ cap ≤ maxLen := by
  obtain ⟨xs, ⟨h1, h2⟩, h3⟩ := h
  rcases h2 with ⟨rfl, hn⟩ | ⟨g, cap, cur, rfl, hb, hg, hl, hm, _⟩
  · exact ⟨none, 0, by rw [hn], by omega, Nat.zero_le _⟩
  · exact ⟨_, cap, rfl, hl, hm⟩
/-- Nothing of it has changed. -/
theorem Frs.same {w w' : World} {v : Value} {ok ok' : Nat → Prop} {fs : List Fr} (h : Frs w v ok fs) (hs : w.heap.size ≤ w'.heap.size) (hk : ∀ g, ok g → g < w.heap.size → ok' g ∧ w'.heap[g]? = w.heap[g]?) : Frs w' v ok' fs := by
  obtain ⟨xs, ⟨h1, h2⟩, h0, h3⟩ := h
  refine ⟨xs, ⟨h1, ?_⟩, ?_, FrC.same hs (fun g hg hl hr => ⟨(hk g hg hl).1, hr, (hk g hg hl).2⟩) _ _ h3⟩
  · rcases h2 with h | ⟨g, cap, cur, e, hb, hg, r⟩
    · exact .inl h
    · exact .inr ⟨g, cap, cur, e, hb, (hk g (h0 g (by rw [e]; rfl)) (heap_lt hg)).2.trans hg, r⟩
  · intro g hg
    rcases h2 with ⟨h, _⟩ | ⟨g', cap, cur, e, hb, hg', r⟩
    · rw [h] at hg; cases hg
    · rw [e] at hg
      injection hg with hg
      have hg : g' = g := hg
      subst hg
      exact (hk g' (h0 g' (by rw [e]; rfl)) (heap_lt hg')).1
theorem Frs.below {w w' : World} {v : Value} {ok : Nat → Prop} {fs : List Fr} (h : Frs w v ok fs) (hb : Below w.heap.size w w') : Frs w' v ok fs := h.same hb.size (fun g h hl => ⟨h, hb.block g hl⟩)
/-- A block that is none of its own turned. -/
theorem Frs.kept {w w' : World} {v : Value} {ok : Nat → Prop} {F : Nat} {fs : List Fr} (h : Frs w v ok fs) (hg : w.grownBy w' (some F)) (hF : ¬ ok F) : Frs w' v ok fs :=
  h.same hg.size (fun g hN hl => ⟨hN, hg.block g hl (fun e => by injection e with e; subst e; exact hF hN)⟩)
theorem info_fr : (Tryd.prog.info? 51).map (fun i => (i.zero, i.size, i.bytes)) = some (some (.agg #[.int .i64 0, .int .i64 0, .slice none 0 0]), 3, 40) := by kernel_rfl
theorem cells3 {w : World} {b : Nat} {x y z : Value} {T : TypeId} {f : Nat × Nat} (h : w.heap[b]? = some (.cells #[x, y, z] T f)) : ∀ j u, [x, y, z][j]? = some u → w.cell? ((⟨b, 0, none⟩ : Addr).add j) = some u := by
  intro j u hu
  rw [Addr.add_mid, Nat.zero_add]
  exact blk_cell h (by simpa using hu)
/-- append(list, f) -/
theorem append_frs (w : World) (ty : TypeId) (v : Value) (ok : Nat → Prop) (fs : List Fr) (b k s n g cap : Nat) (D : List Nat) (T : TypeId) (f : Nat × Nat) (c : Nat) (h : Frs w v ok fs) (hnew : ok w.heap.size) (hb : w.heap[b]? = some (.cells #[.int .i64 (k : Int), .int .i64 (s : Int), .slice (some ⟨g, 0, none⟩) n cap] T f))
    (hd : Dst w g n cap D) (hgN : ok g) (hgr : some g ≠ v.ownBlock) (hbig : fs.length ≤ 1000000000) :
    ∃ v' w', (Builtin.append_ #[37, 37] ty #[v, .slice (some ⟨b, 0, none⟩) 1 c]).run Tryd.prog w = .ok v' w' ∧ Frs w' v' ok (fs ++ [⟨k, s, D⟩]) ∧ w.grownBy w' v.ownBlock ∧ (v'.ownBlock = v.ownBlock ∨ v'.ownBlock = some w.heap.size) := by
  obtain ⟨i0, hi0, hz0, hz1, hz2⟩ := info_parts info_fr
  obtain ⟨xs, ho, h0, hf⟩ := h
  obtain ⟨v', w', hr, h1, h2, h3, h4⟩ := run_append_own_at (P := Tryd.prog) w 0 37 ty 51 i0 _ 3 40 Tryd.underlying37 hi0 hz0 hz1 hz2 rfl (by omega) v fs.length xs ho ⟨b, 0, none⟩ 1 c [.int .i64 (k : Int), .int .i64 (s : Int), .slice (some ⟨g, 0, none⟩) n cap] rfl (cells3 hb) (by intro u hu; simp only [List.mem_cons, List.not_mem_nil, or_false] at hu; rcases hu with rfl | rfl | rfl <;> rfl) (by unfold maxLen; omega) (by omega) (Nat.zero_le _)
  refine ⟨v', w', hr, ⟨_, by simpa using h1, ?_, ?_⟩, h2, h4⟩
  · intro g' hg'
    rcases h4 with e | e
    · rw [e] at hg'; exact h0 g' hg'
    · rw [e] at hg'; injection hg' with hg'; subst hg'; exact hnew
  have hrow : ∀ g, ok g → g < w.heap.size → some g ≠ v.ownBlock → ok g ∧ some g ≠ v'.ownBlock ∧ w'.heap[g]? = w.heap[g]? := by
    intro g hg hl hr
    refine ⟨hg, ?_, h2.block g hl hr⟩
    rcases h4 with e | e
    · rw [e]; exact hr
    · rw [e]; intro e; injection e with e; omega
  have hx := hrow g hgN hd.lt hgr
  exact FrC.snoc hd.len hgN hx.2.1 (Dst.same hd hx.2.2 h2.size) fs xs (FrC.same h2.size hrow fs xs hf)
theorem append_nothing (w : World) (ty : TypeId) (a : Option Addr) (n cap : Nat) (hc : n ≤ cap) : (Builtin.append_ #[37, 37] ty #[.slice a n cap, .slice none 0 0]).run Tryd.prog w = .ok (.slice a n cap) w := by
  obtain ⟨i0, hi0, hz0, hz1, hz2⟩ := info_parts info_fr
  cases a <;> simp [Builtin.append_, run_underlying Tryd.underlying37, sizeOf, typeInfo, hi0, Builtin.lenOf, Builtin.firstCells, hc, storeCells]
/-- append(list, more...) -/
theorem append_frs2 (w : World) (ty : TypeId) (v u : Value) (ok okv oku : Nat → Prop) (fs gs : List Fr) (h : Frs w v okv fs) (hu : Frs w u oku gs) (hnew : ok w.heap.size) (hv1 : ∀ g, okv g → ok g) (hu1 : ∀ g, oku g → ok g ∧ some g ≠ v.ownBlock) (hbig : fs.length + gs.length ≤ 1000000000) :
    ∃ v' w', (Builtin.append_ #[37, 37] ty #[v, u]).run Tryd.prog w = .ok v' w' ∧ Frs w' v' ok (fs ++ gs) ∧ w.grownBy w' v.ownBlock ∧ (v'.ownBlock = v.ownBlock ∨ v'.ownBlock = some w.heap.size) := by
  obtain ⟨i0, hi0, hz0, hz1, hz2⟩ := info_parts info_fr
  obtain ⟨av, cv, hv, hlc, -⟩ := h.form
  obtain ⟨xs, ho, h0, hf⟩ := h
  obtain ⟨zs, hoz, h0z, hfz⟩ := hu
  have hcz := hoz
  obtain ⟨h1z, h2z⟩ := hoz
  have hrow1 : ∀ g, okv g → g < w.heap.size → some g ≠ v.ownBlock → ok g ∧ some g ≠ v.ownBlock ∧ w.heap[g]? = w.heap[g]? := fun g h1 _ h2 => ⟨hv1 g h1, h2, rfl⟩
  have hrow2 : ∀ g, oku g → g < w.heap.size → some g ≠ u.ownBlock → ok g ∧ some g ≠ v.ownBlock ∧ w.heap[g]? = w.heap[g]? := fun g h1 _ h2 => ⟨(hu1 g h1).1, (hu1 g h1).2, rfl⟩
  have hf' := FrC.same (Nat.le_refl _) hrow1 fs xs hf
  have hfz' := FrC.same (Nat.le_refl _) hrow2 gs zs hfz
  rcases h2z with ⟨rfl, hn⟩ | ⟨gz, cz, cur, rfl, hbz, hgz, hlz, _⟩
  · obtain rfl : gs = [] := List.length_eq_zero_iff.1 hn
    refine ⟨v, w, ?_, ⟨xs, by simpa using ho, fun g hg => hv1 g (h0 g hg), by simpa using hf'⟩, World.grownBy.refl w _, .inl rfl⟩
    rw [hv]
    exact append_nothing w ty av fs.length cv hlc
  · obtain ⟨v', w', hr, h1, h2, h3, h4⟩ := run_append_own_at (P := Tryd.prog) w 0 37 ty 51 i0 _ 3 40 Tryd.underlying37 hi0 hz0 hz1 hz2 rfl (by omega) v fs.length xs ho ⟨gz, 0, none⟩ gs.length cz zs h1z (hcz.cells (g := gz) rfl) (FrC.one gs zs hfz) (by unfold maxLen; omega) (by omega) (Nat.zero_le _)
    refine ⟨v', w', hr, ⟨_, by simpa using h1, ?_, ?_⟩, h2, h4⟩
    · intro g' hg'
      rcases h4 with e | e
      · rw [e] at hg'; exact hv1 g' (h0 g' hg')
      · rw [e] at hg'; injection hg' with hg'; subst hg'; exact hnew
    have hrow : ∀ g, ok g → g < w.heap.size → some g ≠ v.ownBlock → ok g ∧ some g ≠ v'.ownBlock ∧ w'.heap[g]? = w.heap[g]? := by
      intro g hg hl hr
      refine ⟨hg, ?_, h2.block g hl hr⟩
      rcases h4 with e | e
      · rw [e]; exact hr
      · rw [e]; intro e; injection e with e; omega
    exact FrC.append (FrC.same h2.size hrow gs zs hfz') fs xs (FrC.same h2.size hrow fs xs hf')
theorem wpList_append_frs {w : World} {ops : Array Oper} {rest : List Oper} {o : Oper} {a : Act} {Q : Exit → Act → World → Prop} (hgd : o.guard = none) (sl x : Operand)
    (ho : o.op = .call { callee := .builtin .append, args := #[sl, x], argTypes := #[37, 37] }) (v : Value) (ok : Nat → Prop) (fs : List Fr) (b k s n g cap : Nat) (D : List Nat) (T : TypeId) (f : Nat × Nat) (c : Nat)
    (hs : a.eval sl = v) (hx : a.eval x = .slice (some ⟨b, 0, none⟩) 1 c) (h : Frs w v ok fs) (hnew : ok w.heap.size) (hb : w.heap[b]? = some (.cells #[.int .i64 (k : Int), .int .i64 (s : Int), .slice (some ⟨g, 0, none⟩) n cap] T f))
    (hd : Dst w g n cap D) (hgN : ok g) (hgr : some g ≠ v.ownBlock) (hbig : fs.length ≤ 1000000000)
    (H : ∀ v' w', Hid (Frs w' v' ok (fs ++ [⟨k, s, D⟩])) → Hid (w.grownBy w' v.ownBlock) → Hid (v'.ownBlock = v.ownBlock ∨ v'.ownBlock = some w.heap.size) → Hid (wpList Tryd.prog ops Q rest (a.put o.dst v') w')) : wpList Tryd.prog ops Q (o :: rest) a w := by
  obtain ⟨v', w', hrun, h1, h2, h3⟩ := append_frs w o.type v ok fs b k s n g cap D T f c h hnew hb hd hgN hgr hbig
  refine wpList_plain hgd fun K hK => ?_
  unfold Oper.wp
  simp [execOp, ho, resolve, invoke, builtin, hs, hx, hrun, Result.andThen]
  exact hK _ _ (H v' w' h1 h2 h3)
end Go.Proofs.YtpaijhmbfljfmaaDoor.Gb
